import PyProof.Rows.All
import Wide.All
import OpenK.AllK
import Wide.FinOn
import HandS.ForMost
import HandS.Exc
import HandS.ExcInit
import HandS.IsInst
import HandS.Defaults
import HandS.Wide
import HandS.Conv
import HandS.Dict
import HandS.DictTup
import HandS.DictComp
import HandS.Flow
import HandS.Style
import HandS.TupSets
import HandS.NoneIn
import HandS.Head0
import HandS.Head1
import HandS.Head2
import HandS.HeadEnd
import HandS.HeadHook1
import HandS.HeadHook2
import HandS.HeadHook4
import HandS.Nested
import HandS.Iter
import KE.GoesEnum
import HandS.More
import HandS.WideBits
import HandS.Deep
import KE.SortData
import KE.SortKeyHeap
import HandS.Words
import HandS.SortKw
import HandS.Walk
import HandS.Star
import HandS.HeadWalk
import PySem.Challenge.RW_twoworlds_k06_whole_hands
set_option Elab.async false
set_option linter.all false
set_option maxRecDepth 100000
set_option maxHeartbeats 40000000
namespace L2.TB
open PySem PySem.Spec PyProof.Rows
def topS (i : Nat) : Stmt := PySem.Challenge.pw_twoworlds_k06_whole_hands.main.body.getD i (.Pass ⟨0, 0, 0, 0⟩)
abbrev sStart : Stmt := topS 56
abbrev sDraw : Stmt := topS 57
abbrev sPick : Stmt := topS 58
abbrev sMixed : Stmt := topS 59
abbrev sSome : Stmt := topS 50
abbrev sNames : Stmt := topS 48
abbrev sRows : Stmt := topS 49
abbrev sSame : Stmt := topS 60
abbrev sKey : Stmt := topS 51
abbrev sTells : Stmt := topS 52
abbrev sFiles : Stmt := topS 53
abbrev sPlaces2 : Stmt := topS 54
abbrev sLess : Stmt := topS 55
abbrev sJoined : Stmt := topS 61
abbrev sDue : Stmt := topS 62
abbrev sDueTell : Stmt := topS 63
abbrev sLaw : Stmt := topS 64
abbrev sIsInt : Stmt := topS 17
abbrev sIsCount : Stmt := topS 18
abbrev sIsList : Stmt := topS 19
abbrev sIsName : Stmt := topS 20
abbrev sIsOne : Stmt := topS 21
abbrev sFirst : Stmt := topS 23
abbrev sCkK : Stmt := topS 24
abbrev sCkA : Stmt := topS 25
abbrev sCkB : Stmt := topS 26
abbrev sCkH : Stmt := topS 28
abbrev sHasJust : Stmt := topS 22
abbrev sTellings : Stmt := topS 30
abbrev sBits : Stmt := topS 31
abbrev sLeastS : Stmt := topS 32
abbrev sMostS : Stmt := topS 33
abbrev sKnows : Stmt := topS 35
abbrev sLeastG : Stmt := topS 36
abbrev sOutsiders : Stmt := topS 37
abbrev sMayTell : Stmt := topS 38
abbrev sIsSafe : Stmt := topS 39
abbrev sCkHA : Stmt := topS 40
abbrev sTogether : Stmt := topS 41
abbrev sTeller : Stmt := topS 42
abbrev sBadRow : Stmt := topS 46
abbrev sTable : Stmt := topS 44
abbrev sInit : Stmt := inClass sTable 0
abbrev sQs : Stmt := inClass sTable 4
abbrev sIsTold : Stmt := inClass sTable 7
abbrev sPlaces : Stmt := inClass sTable 18
abbrev sParting : Stmt := inClass sTable 21
end L2.TB
namespace L2.TB
open PySem PySem.Spec PyProof.Rows
/-! ### what the top leaves, by addresses -/
def asK : List Nat := ([3, 6, 4, 21, 31, 51, 70, 89, 108, 127, 146, 165, 184, 203, 222, 234, 243, 250, 257, 262, 269, 274, 281, 288, 295, 302, 307, 314, 319, 324, 329, 334, 341, 346, 351, 356, 361, 368, 373, 380] : List Nat) ++
  ([527, 536, 541, 546, 551, 558, 563, 570, 575, 580, 585, 592, 599, 606, 611, 616, 621, 626, 633, 638, 20, 30, 50, 69, 88, 107, 126, 145, 164, 183, 202, 221, 233, 242, 249, 256, 261, 268, 273, 280] : List Nat) ++
  ([287, 294, 301, 306, 313, 318, 323, 328, 333, 340, 345, 350, 355, 360, 367, 372, 379, 526, 535, 540, 545, 550, 557, 562, 569, 574, 579, 584, 591, 598, 605, 610, 615, 620, 625, 632, 637, 15, 16, 17] : List Nat) ++
  ([18, 19, 29, 32, 48, 49, 67, 68, 86, 87, 105, 106, 124, 125, 143, 144, 162, 163, 181, 182, 200, 201, 219, 220, 232, 237, 238, 239, 240, 241, 244, 245, 246, 247, 248, 251, 252, 253, 254, 255] : List Nat) ++
  ([258, 259, 260, 263, 264, 265, 266, 267, 270, 271, 272, 275, 276, 277, 278, 279, 282, 283, 284, 285, 286, 289, 290, 291, 292, 293, 296, 297, 298, 299, 300, 303, 304, 305, 308, 309, 310, 311, 312, 315] : List Nat) ++
  ([316, 317, 320, 321, 322, 325, 326, 327, 330, 331, 332, 335, 336, 337, 338, 339, 342, 343, 344, 347, 348, 349, 352, 353, 354, 357, 358, 359, 362, 363, 364, 365, 366, 369, 370, 371, 374, 375, 376, 377] : List Nat) ++
  ([378, 392, 399, 406, 413, 420, 427, 432, 439, 446, 451, 456, 463, 470, 475, 480, 487, 494, 499, 504, 509, 514, 519, 524, 525, 528, 529, 532, 533, 534, 537, 538, 539, 542, 543, 544, 547, 548, 549, 552] : List Nat) ++
  ([553, 554, 555, 556, 559, 560, 561, 564, 565, 566, 567, 568, 571, 572, 573, 576, 577, 578, 581, 582, 583, 586, 587, 588, 589, 590, 593, 594, 595, 596, 597, 600, 601, 602, 603, 604, 607, 608, 609, 612] : List Nat) ++
  ([613, 614, 617, 618, 619, 622, 623, 624, 627, 628, 629, 630, 631, 634, 635, 636, 47, 66, 85, 104, 123, 142, 161, 180, 199, 218, 391, 398, 405, 412, 419, 426, 431, 438, 445, 450, 455, 462, 469, 474] : List Nat) ++
  ([479, 486, 493, 498, 503, 508, 513, 518, 523, 42, 43, 44, 45, 46, 61, 62, 63, 64, 65, 80, 81, 82, 83, 84, 99, 100, 101, 102, 103, 118, 119, 120, 121, 122, 137, 138, 139, 140, 141, 156] : List Nat) ++
  ([157, 158, 159, 160, 175, 176, 177, 178, 179, 194, 195, 196, 197, 198, 213, 214, 215, 216, 217, 388, 389, 390, 393, 394, 395, 396, 397, 400, 401, 402, 403, 404, 407, 408, 409, 410, 411, 414, 415, 416] : List Nat) ++
  ([417, 418, 421, 422, 423, 424, 425, 428, 429, 430, 433, 434, 435, 436, 437, 440, 441, 442, 443, 444, 447, 448, 449, 452, 453, 454, 457, 458, 459, 460, 461, 464, 465, 466, 467, 468, 471, 472, 473, 476] : List Nat) ++
  ([477, 478, 481, 482, 483, 484, 485, 488, 489, 490, 491, 492, 495, 496, 497, 500, 501, 502, 505, 506, 507, 510, 511, 512, 515, 516, 517, 520, 521, 522] : List Nat)
def dd (p : Str × Option Str) (x q : Str) (st : Stmt) (dv : List He.Dv) : He.DefD := { at_ := p, name := x, qual := q, params := defArgs st, body := defBody st, scope := defScope st, dfl := dv }
def fnT : List He.DefD := ([dd ("_law_start", none) "_law_start" "_law_start" sStart [], dd ("_law_draw", none) "_law_draw" "_law_draw" sDraw [], dd ("_law_pick", none) "_law_pick" "_law_pick" sPick [], dd ("_law_mixed", none) "_law_mixed" "_law_mixed" sMixed [], dd ("_law_t_some", none) "_law_t_some" "_law_t_some" sSome [], dd ("_law_t_names", none) "_law_t_names" "_law_t_names" sNames [], dd ("_law_t_rows", none) "_law_t_rows" "_law_t_rows" sRows [], dd ("_law_same", none) "_law_same" "_law_same" sSame []] : List He.DefD) ++
  ([dd ("_law_t_key", none) "_law_t_key" "_law_t_key" sKey [], dd ("_law_t_tells", none) "_law_t_tells" "_law_t_tells" sTells [], dd ("_law_t_files", none) "_law_t_files" "_law_t_files" sFiles [], dd ("_law_t_places", none) "_law_t_places" "_law_t_places" sPlaces2 [], dd ("_law_t_less", none) "_law_t_less" "_law_t_less" sLess [], dd ("_law_joined", none) "_law_joined" "_law_joined" sJoined [], dd ("_law_due", none) "_law_due" "_law_due" sDue [], dd ("_law_due_tell", none) "_law_due_tell" "_law_due_tell" sDueTell []] : List He.DefD) ++
  ([dd ("law", none) "law" "law" sLaw [], dd ("is_integer", none) "is_integer" "is_integer" sIsInt [], dd ("is_count", none) "is_count" "is_count" sIsCount [], dd ("is_list", none) "is_list" "is_list" sIsList [], dd ("is_name", none) "is_name" "is_name" sIsName [], dd ("is_one_of", none) "is_one_of" "is_one_of" sIsOne [], dd ("first_bad", none) "first_bad" "first_bad" sFirst [], dd ("check_known", none) "check_known" "check_known" sCkK []] : List He.DefD) ++
  ([dd ("check_asked", none) "check_asked" "check_asked" sCkA [], dd ("check_both", none) "check_both" "check_both" sCkB [], dd ("check_hands", none) "check_hands" "check_hands" sCkH [], dd ("has_just", none) "has_just" "has_just" sHasJust [], dd ("_tellings", none) "_tellings" "_tellings" sTellings [], dd ("_places", none) "_places" "_places" sBits [], dd ("least_sets", none) "least_sets" "least_sets" sLeastS [], dd ("most_sets", none) "most_sets" "most_sets" sMostS []] : List He.DefD) ++
  ([dd ("knows", none) "knows" "knows" sKnows [], dd ("least_groups", none) "least_groups" "least_groups" sLeastG [], dd ("outsiders", none) "outsiders" "outsiders" sOutsiders [], dd ("may_tell", none) "may_tell" "may_tell" sMayTell [], dd ("is_safe", none) "is_safe" "is_safe" sIsSafe [], dd ("_check_both", none) "_check_both" "_check_both" sCkHA [], dd ("_together", none) "_together" "_together" sTogether [], dd ("_teller", none) "_teller" "_teller" sTeller []] : List He.DefD) ++
  ([dd ("_first_bad_row", none) "_first_bad_row" "_first_bad_row" sBadRow [], dd ("Table", some "__init__") "__init__" "Table.__init__" sInit [], dd ("Table", some "questions") "questions" "Table.questions" sQs [], dd ("Table", some "is_told") "is_told" "Table.is_told" sIsTold [], dd ("Table", some "_places") "_places" "Table._places" sPlaces [], dd ("Table", some "_parting_rows") "_parting_rows" "Table._parting_rows" sParting []] : List He.DefD)
def faT : List He.Fa := ([.glo "_law_start", .glo "_law_draw", .glo "_law_pick", .glo "_law_mixed", .glo "_law_t_some", .glo "_law_t_names", .glo "_law_t_rows", .glo "_law_same", .glo "_law_t_key", .glo "_law_t_tells", .glo "_law_t_files", .glo "_law_t_places", .glo "_law_t_less", .glo "_law_joined", .glo "_law_due", .glo "_law_due_tell"] : List He.Fa) ++
  ([.glo "law", .glo "is_integer", .glo "is_count", .glo "is_list", .glo "is_name", .glo "is_one_of", .glo "first_bad", .glo "check_known", .glo "check_asked", .glo "check_both", .glo "check_hands", .glo "has_just", .glo "_tellings", .glo "_places", .glo "least_sets", .glo "most_sets"] : List He.Fa) ++
  ([.glo "knows", .glo "least_groups", .glo "outsiders", .glo "may_tell", .glo "is_safe", .glo "_check_both", .glo "_together", .glo "_teller", .glo "_first_bad_row", .glo "Table", .free "list", .free "len", .free "int", .free "range", .free "dict", .free "tuple"] : List He.Fa) ++
  ([.free "str", .free "bool", .free "isinstance", .free "all", .free "enumerate", .free "zip", .free "sorted", .free "set", .free "any", .int "LONGEST" 40, .str "SIGNS" "abcdefghijklmnopqrstuvwxyz0123456789.", .cls "Table", .noat "Table" "_questions", .noat "Table" "_rows", .meth "Table" "questions", .meth "Table" "is_told"] : List He.Fa) ++
  ([.meth "Table" "_places", .meth "Table" "_parting_rows", .meth "Table" "__init__", .mkr "Table"] : List He.Fa)
/-- the defs that hold a def, a lambda -/
def tfT : List He.Defn := [("_teller", none), ("least_sets", none)]
def csL (K : PySem.W.Frag) : List (Addr × Addr) := tfT.map (He.cT K)
def diffT (K : PySem.W.Frag) : Bool := !decide ((He.cT K ("_teller", none)).2 = (He.cT K ("least_sets", none)).2)
def obsK (g : Addr → Option Obj) : He.AlD × Bool := (He.obsD faT fnT (He.frT g asK), diffT (He.frT g asK) && He.tabsB g tfT (He.frT g asK))
structure SaysK (h : Heap) (K : PySem.W.Frag) : Prop where
  d : He.SaysD faT fnT K
  np : (He.cT K ("_teller", none)).2 ≠ (He.cT K ("least_sets", none)).2
  hd : ∀ p ∈ tfT, PySem.W.codeHdIn K (He.cT K p).1 (He.cT K p).2 = true
  out : ∀ p ∈ tfT, K.lookup (He.cT K p).2 = none
  empty : ∀ p ∈ tfT, h.get? (He.cT K p).2 = some { cls := .none, data := .fields #[] }
theorem saysK_of {h : Heap} (e : obsK h.get? = (He.valD fnT, true)) : SaysK h (He.frT h.get? asK) := by
  have e1 : He.obsD faT fnT (He.frT h.get? asK) = He.valD fnT := congrArg (fun z : He.AlD × Bool => z.1) e
  have e2 : (diffT (He.frT h.get? asK) && He.tabsB h.get? tfT (He.frT h.get? asK)) = true := congrArg (fun z : He.AlD × Bool => z.2) e
  obtain ⟨h1, h2⟩ := He.ba e2
  have key : ∀ p ∈ tfT, PySem.W.codeHdIn (He.frT h.get? asK) (He.cT (He.frT h.get? asK) p).1 (He.cT (He.frT h.get? asK) p).2 = true ∧ ∃ o, h.get? (He.cT (He.frT h.get? asK) p).2 = some o ∧ He.emptyTab o = true := fun p hp => by
    obtain ⟨h3, h4⟩ := He.ba (List.all_eq_true.mp h2 p hp)
    refine ⟨h3, ?_⟩
    cases q : h.get? (He.cT (He.frT h.get? asK) p).2 with
    | none => rw [q] at h4; cases h4
    | some o => rw [q] at h4; exact ⟨o, rfl, h4⟩
  exact ⟨e1, (fun z => by
    have h3 : (!decide ((He.cT (He.frT h.get? asK) ("_teller", none)).2 = (He.cT (He.frT h.get? asK) ("least_sets", none)).2)) = true := h1
    rw [decide_eq_true z] at h3
    cases h3), fun p hp => (key p hp).1, (fun p hp => by
    obtain ⟨_, o, q, z⟩ := key p hp
    exact He.frT_none q z), (fun p hp => by
    obtain ⟨_, o, q, z⟩ := key p hp
    rw [q, He.emptyTab_eq z])⟩
section
variable {h : Heap} {K : PySem.W.Frag}
theorem SaysK.hdC (c : SaysK h K) {p : Addr × Addr} (hp : p ∈ csL K) : PySem.W.codeHdIn K p.1 p.2 = true := by
  obtain ⟨q, hq, e⟩ := List.mem_map.mp hp
  rw [← e]
  exact c.hd q hq
theorem SaysK.outC (c : SaysK h K) {p : Addr × Addr} (hp : p ∈ csL K) : K.lookup p.2 = none := by
  obtain ⟨q, hq, e⟩ := List.mem_map.mp hp
  rw [← e]
  exact c.out q hq
theorem SaysK.emptyC (c : SaysK h K) {p : Addr × Addr} (hp : p ∈ csL K) : h.get? p.2 = some { cls := .none, data := .fields #[] } := by
  obtain ⟨q, hq, e⟩ := List.mem_map.mp hp
  rw [← e]
  exact c.empty q hq
end
def hookK : PySem.W.Hook where
  α := He.AlD × Bool
  obs := fun s => obsK s.heap.get?
  val := fun _ => (He.valD fnT, true)
  says := fun _ h => ∃ K : PySem.W.Frag, K.In h ∧ SaysK h K
  of := fun _ _ e => ⟨_, He.frT_in, saysK_of e⟩
  keeps := fun _ _ _ ⟨K, hK, c⟩ k => ⟨K, PySem.W.Frag.In.keeps hK k, ⟨c.d, c.np, c.hd, c.out, fun p hp => k _ _ (c.empty p hp)⟩⟩
def obT (s : PySem.W.SharedT) : He.AlD × Bool := obsK (HandSHeadRun.getT s)
theorem obT_eq (s : PySem.W.SharedT) : obT s = hookK.obs s.abs := by
  have e : HandSHeadRun.getT s = s.abs.heap.get? := funext fun a => HandSHeadRun.getT_eq s a
  unfold obT
  rw [e] <;> rfl
namespace HdR
open PySem PySem.W PySem.Calls PyProof.Rows
abbrev R : OpenRow := OpenLaw.row PySem.Challenge.rw_twoworlds_k06_whole_hands
abbrev qv : Program := view R.prog [64]
def names : List PySem.Str := (["_wall", "WorldError", "BadWorld", "BadKnown", "NoQuestion", "BadPlan", "BadAnswers", "BadHands", "BadGroup", "NoHand", "BadNumber", "BadRow", "UnlikeQuestions", "is_integer", "is_count", "is_list", "is_name", "is_one_of", "has_just", "first_bad", "check_known", "check_asked", "check_both", "check_lacking", "check_hands", "_tellings", "_places", "least_sets", "most_sets", "knows"] : List PySem.Str) ++
  (["least_groups", "outsiders", "may_tell", "is_safe", "_check_both", "_together", "_teller", "Table", "_are_integers", "_first_bad_row", "_law_t_names", "_law_t_rows", "_law_t_some", "_law_t_key", "_law_t_tells", "_law_t_files", "_law_t_places", "_law_t_less", "_law_start", "_law_draw", "_law_pick", "_law_mixed", "_law_same", "_law_joined", "_law_due", "_law_due_tell", "SIGNS", "LONGEST"] : List PySem.Str)
set_option maxHeartbeats 0 in
theorem run (w : World) : HandSHeadRun.RunEq R qv L2.TB.hookK L2.TB.obT 16000 names w := by
  intro os
  kernel_rfl
end HdR
end L2.TB
namespace L2.TB
open PySem PySem.Spec PyProof.Rows
/-! ### the spring of draws -/
structure StrmAt (H : Hp) (l ls : Addr) (cs : List Int) (g k m N : Int) : Prop where
  o : H l = some (.lst [.ref ls, .int g, .int k, .int m])
  c : H ls = some (.lst (cs.map V.int))
  ne : ls ≠ l
  g0 : 0 ≤ g
  k0 : 0 ≤ k
  k1 : k ≤ N
  m0 : 0 ≤ m
  m1 : m < 2147483647
  sz : cs.length ≤ 100
def Strm (H : Hp) (l ls : Addr) (N : Int) : Prop := ∃ cs g k m, StrmAt H l ls cs g k m N
/-- all but the spring is as it was -/
def But (l ls : Addr) (H H' : Hp) : Prop := ∀ b o, b ≠ l → b ≠ ls → H b = some o → H' b = some o
theorem But.refl (l ls : Addr) (H : Hp) : But l ls H H := fun _ _ _ _ e => e
theorem But.trans {l ls : Addr} {H H1 H2 : Hp} (a : But l ls H H1) (b : But l ls H1 H2) : But l ls H H2 := fun c o h1 h2 e => b c o h1 h2 (a c o h1 h2 e)
theorem But.of {l ls : Addr} {H H' : Hp} (a : Same H H') : But l ls H H' := fun c o _ _ e => a c o e
theorem But.upd {l ls a : Addr} {H : Hp} {o : HO} (h : a = l ∨ a = ls) : But l ls H (upd H a o) := fun b u h1 h2 e => by
  have ne : b ≠ a := by rcases h with h | h <;> (subst h; assumption)
  rw [upd_ne ne]; exact e
theorem dp_ints {K : PySem.W.Frag} {H : Hp} : ∀ cs : List Int, DpAll K H (cs.map V.int) (cs.map PyData.int)
  | [] => .nil
  | c :: cs => .cons (.int c) (dp_ints cs)
def spDraw : Sp := fun vs H Q _ => ∃ (l ls : Addr) (many N : Int), vs = [.ref l, .int many] ∧ Strm H l ls N ∧ N ≤ 1000000 ∧ 0 < many ∧ many < 1000 ∧
  ∀ H' r, 0 ≤ r → r < many → Strm H' l ls (N + 1) → But l ls H H' → Q (.int r) H'
theorem scDraw : FnScope ["stream", "many", "cell", "digit", "mixed"] ["stream", "many"] (defScope sDraw) := ⟨rfl, rfl, rfl, by decide +kernel, rfl, by decide +kernel, by decide +kernel⟩
theorem pow_nn (a : Int) (h : 0 ≤ a) : 0 ≤ a ^ (Int.toNat 5) := Int.pow_nonneg h
theorem at0 {a b c d : V} : atI [a, b, c, d] 0 = some a := rfl
theorem at1 {a b c d : V} : atI [a, b, c, d] 1 = some b := rfl
theorem at2 {a b c d : V} : atI [a, b, c, d] 2 = some c := rfl
theorem at3 {a b c d : V} : atI [a, b, c, d] 3 = some d := rfl
theorem draw_end {A B C many : Int} (h : 0 < many) : 0 ≤ A % B % many ∧ A % B % many < many :=
  ⟨Int.emod_nonneg _ (by omega), Int.emod_lt_of_pos _ h⟩
section
variable {P : Program} {w : World} {K : PySem.W.Frag} {mg : Str → Option Value} {base : Heap} {f : Addr} {fd : FuncData}
theorem ok_draw (F : Fun K "_law_draw" "_law_draw" sDraw f fd) (gI : mg "int" = none) : FnOk P w K mg base CX0 1 f fd ["stream", "many"] spDraw := by
  refine F.ok scDraw (fun vs H Q E h => by obtain ⟨l, ls, many, N, e, _⟩ := h; rw [e]; rfl) fun cdv A outer s H vs Q E hr hsp => ?_
  obtain ⟨l, ls, many, N, rfl, ⟨cs, g, k, m, S⟩, hN, h0, h1, hq⟩ := hsp
  have nd := scDraw.nd
  have hu := hu_of hr
  have hu64 := hr.units
  obtain ⟨tl, ptl, htl⟩ : ∃ t, PSs (cxOf CX0 P w K mg base ["stream", "many", "cell", "digit", "mixed"] "_law_draw" (defScope sDraw) f cdv A outer s H E).nox ((defBody sDraw).drop 2) t ∧
      ∀ (H1 : Hp) (c : Option V) (cs : List Int) (g k m : Int), StrmAt H1 l ls cs g k m (N + 1) → But l ls H H1 →
        t { nx := fun _ H' => Q .non H', rt := Q } [some (.ref l), some (.int many), c, none, none] H1 := by
    refine ⟨_, pss_cons (ps_if (pt_cmpR op_gt (pe_ix ix_list (pv 0) pe_int (fun _ _ => rfl)) pe_int (nomark _))
      (pss_cons (ps_set (i := 3) nd rfl (Or.inl rfl) (pe_op op_mod (pe_callTy call_int1 rfl gI boot_int (pa_cons (pe_ix ix_list (pv 0) pe_int (fun _ _ => rfl)) pa_nil)) (pv 1)))
      (pss_cons (ps_asg (pe_op op_fdiv (pe_ix ix_list (pv 0) pe_int (fun _ _ => rfl)) (pv 1)) (pg_sub (pv 0) pe_int set_list))
      (pss_one (ps_ret (pv 3)))))
      pss_nil)
    (pss_cons (ps_set (i := 4) nd rfl (Or.inl rfl) (pe_op op_mod (pe_callTy call_int1 rfl gI boot_int (pa_cons (pe_op op_pow (pe_op op_add (pe_op op_add (pe_ix ix_list (pv 0) pe_int (fun _ _ => rfl)) (pe_op op_mul pe_int (pe_ix ix_list (pv 0) pe_int (fun _ _ => rfl)))) pe_int) pe_int) pa_nil)) pe_int))
    (pss_one (ps_ret (pe_op op_mod (pe_op op_mod (pe_callTy call_int1 rfl gI boot_int (pa_cons (pe_op op_pow (pe_op op_add (pe_op op_add (pe_op op_mul (pv 4) pe_int) (pe_op op_mul pe_int (pe_ix ix_list (pv 0) pe_int (fun _ _ => rfl)))) pe_int) pe_int) pa_nil)) pe_int) (pv 1))))), fun H1 c cs g k m S hB => ?_⟩
    refine ⟨_, rfl, _, _, _, _, rfl, rfl, SqL.of S.o, at1, _, _, rfl, rfl, _, rfl, ite2 (fun e => ?_) (fun e => ?_)⟩
    · refine ⟨_, rfl, _, _, _, _, rfl, rfl, SqL.of S.o, at1, .inl ⟨_, rfl, ?_⟩⟩
      refine ⟨_, rfl, _, _, rfl, rfl, h0, ?_⟩
      refine ⟨_, rfl, _, _, _, _, rfl, rfl, SqL.of S.o, at1, _, rfl, _, _, rfl, rfl, ⟨h0, by omega⟩, ?_⟩
      refine ⟨_, rfl, _, _, _, _, rfl, rfl, S.o, rfl, ?_⟩
      refine ⟨_, rfl, ?_⟩
      refine hq _ _ (Int.emod_nonneg _ (by omega)) (Int.emod_lt_of_pos _ h0) ⟨cs, g / many, k, m, ⟨upd_same, ?_, S.ne, Int.ediv_nonneg S.g0 (by omega), S.k0, S.k1, S.m0, S.m1, S.sz⟩⟩ (hB.trans (But.upd (.inl rfl)))
      rw [upd_ne S.ne]; exact S.c
    · have hk := S.k1
      have hk0 := S.k0
      have hm := S.m0
      have hm1 := S.m1
      refine ⟨_, rfl, _, _, _, _, rfl, rfl, SqL.of S.o, at3, _, rfl, _, _, _, _, rfl, rfl, SqL.of S.o, at2, _, _, rfl, rfl, .inl ⟨by decide, by decide⟩, _, _, rfl, rfl, _, _, rfl, rfl, _, _, rfl, rfl, ⟨by decide, by decide, ?_⟩, ?_⟩
      · omega
      refine .inl ⟨_, rfl, _, _, rfl, rfl, (by show (0 : Int) < 2147483629; decide), ?_⟩
      have e1 := Int.emod_nonneg ((m + 7919 * k + 104729) ^ Int.toNat 5) (show (2147483629 : Int) ≠ 0 by decide)
      have e2 := Int.emod_lt_of_pos ((m + 7919 * k + 104729) ^ Int.toNat 5) (show (0 : Int) < 2147483629 by decide)
      generalize (m + 7919 * k + 104729) ^ Int.toNat 5 % 2147483629 = z at e1 e2 ⊢
      refine ⟨_, rfl, _, _, rfl, rfl, .inr ⟨by decide, by decide⟩, _, rfl, _, _, _, _, rfl, rfl, SqL.of S.o, at2, _, _, rfl, rfl, .inl ⟨by decide, by decide⟩, _, _, rfl, rfl, _, _, rfl, rfl, _, _, rfl, rfl, ⟨by decide, by decide, ?_⟩, ?_⟩
      · omega
      refine .inl ⟨_, rfl, _, _, rfl, rfl, (by show (0 : Int) < 1000000007; decide), _, rfl, _, _, rfl, rfl, h0, ?_⟩
      exact hq _ _ (Int.emod_nonneg _ (by omega)) (Int.emod_lt_of_pos _ h0) ⟨cs, g, k, m, S⟩ hB
  refine ⟨_, pss_cons (ps_asg (pe_op op_add (pe_ix ix_list (pv 0) pe_int (fun _ _ => rfl)) pe_int) (pg_sub (pv 0) pe_int set_list))
    (pss_cons (ps_if (PW.pt (pw_and (pt_cmpR op_eq (pe_ix ix_list (pv 0) pe_int (fun _ _ => rfl)) pe_int (nomark _))
        (pw_and1 (pt_cmpR (op_neD hu64) (pe_ix ix_list (pv 0) pe_int (fun _ _ => rfl)) (pe_lst pa_nil) (nomark _)))))
      (pss_cons (ps_set (i := 2) nd rfl (Or.inl rfl) (pe_bm PySem.F.plainAttrs_list PySem.F.slot_list_pop PySem.F.type_list_pop mt_popAt (pe_ix ix_list (pv 0) pe_int (fun _ _ => rfl)) (pa_cons pe_int pa_nil)))
      (pss_cons (ps_asg (pe_op op_mod (pe_callTy call_int1 rfl gI boot_int (pa_cons (pe_op op_add (pe_op op_add (pe_op op_mul (pe_ix ix_list (pv 0) pe_int (fun _ _ => rfl)) pe_int) (pv 2)) pe_int) pa_nil)) pe_int) (pg_sub (pv 0) pe_int set_list))
      (pss_one (ps_asg (pe_ifExp (pt_cmpR op_ge (pv 2) (pe_op op_pow pe_int pe_int) (nomark _)) (pv 2) pe_int) (pg_sub (pv 0) pe_int set_list)))))
      pss_nil) ptl), ?_⟩
  refine ⟨_, rfl, _, _, _, _, rfl, rfl, SqL.of S.o, at2, _, _, rfl, rfl, _, rfl, _, _, _, _, rfl, rfl, S.o, rfl, ?_⟩
  have S1 : StrmAt (upd H l (.lst [.ref ls, .int g, .int (k + 1), .int m])) l ls cs g (k + 1) m (N + 1) :=
    ⟨upd_same, by rw [upd_ne S.ne]; exact S.c, S.ne, S.g0, by have := S.k0; omega, by have := S.k1; omega, S.m0, S.m1, S.sz⟩
  have B1 : But l ls H (upd H l (.lst [.ref ls, .int g, .int (k + 1), .int m])) := But.upd (.inl rfl)
  refine ⟨_, rfl, _, _, _, _, rfl, rfl, SqL.of S1.o, at1, rfl, _, rfl, ite2 (fun e => ?_) (fun e => ?_)⟩
  · refine ⟨_, rfl, _, _, _, _, rfl, rfl, SqL.of S1.o, at0, Nat.zero_le _, fun q nq => ?_⟩
    have ql : q ≠ l := by
      intro z; rw [z, upd_same] at nq; cases nq
    have qs : q ≠ ls := by
      intro z; rw [z, upd_ne S.ne] at nq; rw [S.c] at nq; cases nq
    have S2 : StrmAt (upd (upd H l (.lst [.ref ls, .int g, .int (k + 1), .int m])) q (.lst [])) l ls cs g (k + 1) m (N + 1) :=
      ⟨by rw [upd_ne (Ne.symm ql)]; exact S1.o, by rw [upd_ne (Ne.symm qs)]; exact S1.c, S.ne, S1.g0, S1.k0, S1.k1, S1.m0, S1.m1, S1.sz⟩
    have B2 : But l ls H (upd (upd H l (.lst [.ref ls, .int g, .int (k + 1), .int m])) q (.lst [])) := B1.trans (But.of fun b o eb => by
      rw [upd_ne (ne_of_none eb nq)]; exact eb)
    refine ⟨.list (cs.map .int), .list [], .lst (SqL.of S2.c) (dp_ints cs), .lst (SqL.of upd_same) .nil, PySem.W.shaped_ints cs, by decide, ?_⟩
    cases cs with
    | nil =>
      refine ⟨_, rfl, iteF ?_⟩
      exact htl _ none [] g (k + 1) m S2 B2
    | cons c cs =>
      refine ⟨_, rfl, iteT ?_⟩
      refine ⟨_, rfl, _, _, _, _, rfl, rfl, SqL.of S2.o, at0, .inl ⟨rfl, _, SqL.of S2.c⟩, ?_⟩
      have ix0 : ixN ((c :: cs).map V.int).length 0 = some 0 := by
        simp [ixN]
      refine ⟨ls, _, 0, 0, .int c, rfl, rfl, S2.c, by decide, by decide, (ixN_seq ix0).1, rfl, ?_⟩
      have S3 : StrmAt (upd (upd (upd H l (.lst [.ref ls, .int g, .int (k + 1), .int m])) q (.lst [])) ls (.lst (cs.map V.int))) l ls cs g (k + 1) m (N + 1) :=
        ⟨by rw [upd_ne (Ne.symm S.ne)]; exact S2.o, upd_same, S.ne, S2.g0, S2.k0, S2.k1, S2.m0, S2.m1, by have := S2.sz; simp only [List.length_cons] at this; omega⟩
      have B3 := B2.trans (But.upd (l := l) (ls := ls) (a := ls) (H := upd (upd H l (.lst [.ref ls, .int g, .int (k + 1), .int m])) q (.lst [])) (o := .lst (cs.map V.int)) (.inr rfl))
      have hm0 := S.m0
      have hm1 := S.m1
      refine ⟨_, rfl, _, _, _, _, rfl, rfl, SqL.of S3.o, at3, _, _, rfl, rfl, .inl ⟨by omega, by omega⟩, _, rfl, _, _, rfl, rfl, _, _, rfl, rfl, .inl ⟨_, rfl, _, _, rfl, rfl, (by show (0 : Int) < 2147483647; decide), ?_⟩⟩
      refine ⟨_, rfl, _, _, _, _, rfl, rfl, S3.o, rfl, ?_⟩
      have S4 : StrmAt (upd (upd (upd (upd H l (.lst [.ref ls, .int g, .int (k + 1), .int m])) q (.lst [])) ls (.lst (cs.map V.int))) l (.lst [.ref ls, .int g, .int (k + 1), .int ((m * 8191 + c + 3) % 2147483647)])) l ls cs g (k + 1) ((m * 8191 + c + 3) % 2147483647) (N + 1) :=
        ⟨upd_same, by rw [upd_ne S.ne]; exact S3.c, S.ne, S3.g0, S3.k0, S3.k1, Int.emod_nonneg _ (by decide), Int.emod_lt_of_pos _ (by decide), S3.sz⟩
      have B4 := B3.trans (But.upd (l := l) (ls := ls) (a := l) (o := .lst [.ref ls, .int g, .int (k + 1), .int ((m * 8191 + c + 3) % 2147483647)]) (.inl rfl))
      refine ⟨_, rfl, _, _, rfl, rfl, ⟨by decide, by decide, by decide⟩, _, _, rfl, rfl, _, rfl, ite2 (fun e4 => ?_) (fun e4 => ?_)⟩
      · refine ⟨_, rfl, _, rfl, _, _, _, _, rfl, rfl, S4.o, rfl, ?_⟩
        have hc : (0 : Int) ≤ c := by
          have z := of_decide_eq_true e4
          have z2 : (0 : Int) ≤ 10 ^ (Int.toNat 18) := Int.pow_nonneg (by decide)
          omega
        exact htl _ (some (.int c)) cs c (k + 1) ((m * 8191 + c + 3) % 2147483647)
          ⟨upd_same, by rw [upd_ne S.ne]; exact S4.c, S.ne, hc, S4.k0, S4.k1, S4.m0, S4.m1, S4.sz⟩ (B4.trans (But.upd (.inl rfl)))
      · refine ⟨_, rfl, _, _, _, _, rfl, rfl, S4.o, rfl, ?_⟩
        exact htl _ (some (.int c)) cs 0 (k + 1) ((m * 8191 + c + 3) % 2147483647)
          ⟨upd_same, by rw [upd_ne S.ne]; exact S4.c, S.ne, by decide, S4.k0, S4.k1, S4.m0, S4.m1, S4.sz⟩ (B4.trans (But.upd (.inl rfl)))
  · refine iteF ?_
    exact htl _ none cs g (k + 1) m S1 B1
def spStart (K : PySem.W.Frag) : Sp := fun vs H Q _ => ∃ (a : Addr) (ns : List Int), vs = [.ref a] ∧ SqL K H a (ns.map V.int) ∧ ns.length ≤ 100 ∧
  ∀ H' l ls, H l = none → Same H H' → Strm H' l ls 0 → H ls = none → Q (.ref l) H'
theorem scStart : FnScope ["script"] ["script"] (defScope sStart) := ⟨rfl, rfl, rfl, by decide +kernel, rfl, by decide +kernel, by decide +kernel⟩
theorem ok_start (F : Fun K "_law_start" "_law_start" sStart f fd) (gL : mg "list" = none) : FnOk P w K mg base CX0 1 f fd ["script"] (spStart K) := by
  refine F.ok scStart (fun vs H Q E h => by obtain ⟨a, ns, e, _⟩ := h; rw [e]; rfl) fun cdv A outer s H vs Q E hr hsp => ?_
  obtain ⟨a, ns, rfl, hS, hn, hq⟩ := hsp
  refine ⟨_, pss_one (ps_ret (pe_lst (pa_cons (pe_callTy call_list_of rfl gL (by decide +kernel) (pa_cons (pv 0) pa_nil)) (pa_cons pe_int (pa_cons pe_int (pa_cons pe_int pa_nil)))))), ?_⟩
  refine ⟨_, rfl, _, _, rfl, .inl hS, fun ls hls => ⟨by rw [sizeLine_eq]; show 4 ≤ _; omega, fun l hl => ?_⟩⟩
  have ne : ls ≠ l := by
    intro z; rw [← z, upd_same] at hl; cases hl
  have hl2 : H l = none := by rw [upd_ne (Ne.symm ne)] at hl; exact hl
  exact hq _ l ls hl2 (fun b o e => by rw [upd_ne (ne_of_none e hl2), upd_ne (ne_of_none e hls)]; exact e)
    ⟨ns, 0, 0, 11, ⟨upd_same, by rw [upd_ne ne, upd_same], ne, by decide, by decide, by decide, by decide, by decide, hn⟩⟩ hls
def spPick (K : PySem.W.Frag) : Sp := fun vs H Q _ => ∃ (l ls c : Addr) (xs : List V) (N : Int), vs = [.ref l, .ref c] ∧ Strm H l ls N ∧ N ≤ 1000000 ∧
  c ≠ l ∧ c ≠ ls ∧ H c = some (.lst xs) ∧ 0 < xs.length ∧ xs.length < 1000 ∧
  ∀ H' x, x ∈ xs → Strm H' l ls (N + 1) → But l ls H H' → Q x H'
theorem scPick : FnScope ["stream", "some"] ["stream", "some"] (defScope sPick) := ⟨rfl, rfl, rfl, by decide +kernel, rfl, by decide +kernel, by decide +kernel⟩
theorem ok_pick {fD : Addr} {fdD : FuncData} (F : Fun K "_law_pick" "_law_pick" sPick f fd) (FD : Fun K "_law_draw" "_law_draw" sDraw fD fdD)
    (gD : mg "_law_draw" = some (.ref fD)) (gI : mg "int" = none) (gN : mg "len" = none) : FnOk P w K mg base CX0 2 f fd ["stream", "some"] (spPick K) := by
  have G : FnOk P w K mg base CX0 1 fD fdD ["stream", "many"] spDraw := ok_draw FD gI
  have b := FD.binds (ps := ["stream", "many"]) fun _ _ _ _ _ _ us hl => match us, hl with | [_, _], _ => rfl
  refine F.ok scPick (fun vs H Q E h => by obtain ⟨l, ls, c, xs, N, e, _⟩ := h; rw [e]; rfl) fun cdv A outer s H vs Q E hr hsp => ?_
  obtain ⟨l, ls, c, xs, N, rfl, hS, hN, n1, n2, hc, h0, h1, hq⟩ := hsp
  refine ⟨_, pss_one (ps_ret (pe_ix ix_list (pv 1) (pe_call G hr rfl gD FD.kp b .nil pass0 (pa_cons (pv 0) (pa_cons (pe_callB call_len rfl gN boot_len (pa_cons (pv 1) pa_nil)) pa_nil))) (fun _ _ => rfl))), ?_⟩
  refine ⟨_, rfl, _, rfl, _, rfl, _, xs.length, rfl, .inl ⟨_, SqL.of hc, rfl⟩, ?_⟩
  refine ⟨l, ls, _, N, rfl, hS, hN, by omega, by omega, fun H' r r0 r1 S' B' => ?_⟩
  have hr2 : r.toNat < xs.length := by omega
  refine ⟨_, _, _, xs[r.toNat], rfl, rfl, SqL.of (B' c _ n1 n2 hc), ?_, hq H' _ (List.getElem_mem _) S' B'⟩
  have e : ((r.toNat : Nat) : Int) = r := by omega
  have z := atI_nat (xs := xs) (j := r.toNat) (v := xs[r.toNat]) (by simp)
  rw [e] at z
  exact z
end
end L2.TB
namespace L2.TB
open PySem PySem.Spec PyProof.Rows
theorem same_new {H : Hp} {p : Addr} {o : HO} (n : H p = none) : Same H (upd H p o) := fun c u z => by rw [upd_ne (ne_of_none z n)]; exact z
theorem Strm.same {H H' : Hp} {l ls : Addr} {N : Int} (h : Strm H l ls N) (s : Same H H') : Strm H' l ls N := by
  obtain ⟨cs, g, k, m, S⟩ := h
  exact ⟨cs, g, k, m, s _ _ S.o, s _ _ S.c, S.ne, S.g0, S.k0, S.k1, S.m0, S.m1, S.sz⟩
theorem Strm.some {H : Hp} {l ls : Addr} {N : Int} (h : Strm H l ls N) : (∃ o, H l = some o) ∧ ∃ o, H ls = some o := by
  obtain ⟨cs, g, k, m, S⟩ := h
  exact ⟨⟨_, S.o⟩, ⟨_, S.c⟩⟩
/-- what was not there is not the spring -/
theorem Strm.apart {H H' : Hp} {l ls p : Addr} {N : Int} (h : Strm H l ls N) (s : Same H H') (n : H' p = none) : p ≠ l ∧ p ≠ ls := by
  obtain ⟨⟨o, e⟩, ⟨o', e'⟩⟩ := h.some
  exact ⟨(fun z => by rw [z, s _ _ e] at n; cases n), (fun z => by rw [z, s _ _ e'] at n; cases n)⟩
def spPickS : Sp := fun vs H Q _ => ∃ (l ls : Addr) (x : Str) (N : Int), vs = [.ref l, .str x] ∧ Strm H l ls N ∧ N ≤ 1000000 ∧ 0 < x.cps.size ∧ x.cps.size < 1000 ∧
  ∀ H' c, c ∈ x.cps.toList → Strm H' l ls (N + 1) → But l ls H H' → Q (.str ⟨#[c]⟩) H'
/-- a mixed list: what was in it, in some order -/
def spMixed (K : PySem.W.Frag) : Sp := fun vs H Q _ => ∃ (l ls c : Addr) (xs : List V) (N : Int), vs = [.ref l, .ref c] ∧ Strm H l ls N ∧ N ≤ 900000 ∧ SqL K H c xs ∧ xs.length < 1000 ∧
  ∀ H' q ys, ys.Perm xs → H q = none → H' q = some (.lst ys) → Strm H' l ls (N + xs.length) → But l ls H H' → Q (.ref q) H'
theorem scMixed : FnScope ["stream", "some", "left", "k"] ["stream", "some"] (defScope sMixed) := ⟨rfl, rfl, rfl, by decide +kernel, rfl, by decide +kernel, by decide +kernel⟩
theorem pop_perm : ∀ (l : List V) (k : Nat) (y : V), l[k]? = some y → (y :: l.eraseIdx k).Perm l
  | [], k, y, h => by simp at h
  | a :: l, 0, y, h => by
    obtain rfl : a = y := by simpa using h
    exact List.Perm.refl _
  | a :: l, k + 1, y, h => by
    have z := pop_perm l k y (by simpa using h)
    exact (List.Perm.swap a y _).trans (z.cons a)
section
variable {P : Program} {w : World} {K : PySem.W.Frag} {mg : Str → Option Value} {base : Heap} {f fD fP fM : Addr} {fd fdD fdP fdM : FuncData}
theorem ok_pickS (F : Fun K "_law_pick" "_law_pick" sPick f fd) (FD : Fun K "_law_draw" "_law_draw" sDraw fD fdD)
    (gD : mg "_law_draw" = some (.ref fD)) (gI : mg "int" = none) (gN : mg "len" = none) : FnOk P w K mg base CX0 2 f fd ["stream", "some"] spPickS := by
  have G : FnOk P w K mg base CX0 1 fD fdD ["stream", "many"] spDraw := ok_draw FD gI
  have b := FD.binds (ps := ["stream", "many"]) fun _ _ _ _ _ _ us hl => match us, hl with | [_, _], _ => rfl
  refine F.ok scPick (fun vs H Q E h => by obtain ⟨l, ls, x, N, e, _⟩ := h; rw [e]; rfl) fun cdv A outer s H vs Q E hr hsp => ?_
  obtain ⟨l, ls, x, N, rfl, hS, hN, h0, h1, hq⟩ := hsp
  refine ⟨_, pss_one (ps_ret (pe_ix ix_str (pv 1) (pe_call G hr rfl gD FD.kp b .nil pass0 (pa_cons (pv 0) (pa_cons (pe_callB call_len rfl gN boot_len (pa_cons (pv 1) pa_nil)) pa_nil))) (fun _ _ => rfl))), ?_⟩
  have hz : x.length ≤ sizeLine := by rw [sizeLine_eq]; show x.cps.size ≤ _; omega
  have hl : ((x.length : Nat) : Int) = (x.cps.size : Int) := rfl
  refine ⟨_, rfl, _, rfl, _, rfl, _, x.length, rfl, ⟨hz, rfl⟩, ?_⟩
  refine ⟨l, ls, _, N, rfl, hS, hN, by omega, by omega, fun H' r r0 r1 S' B' => ?_⟩
  have hr2 : r.toNat < x.cps.toList.length := by rw [Array.length_toList]; omega
  refine ⟨x, r, x.cps.toList[r.toNat], rfl, rfl, hz, ?_, hq H' _ (List.getElem_mem _) S' B'⟩
  have e : ((r.toNat : Nat) : Int) = r := by omega
  have z := atI_nat (xs := x.cps.toList) (j := r.toNat) (v := x.cps.toList[r.toNat]) (by simp)
  rw [e] at z
  exact z
theorem ok_mixed (F : Fun K "_law_mixed" "_law_mixed" sMixed f fd) (FD : Fun K "_law_draw" "_law_draw" sDraw fD fdD)
    (gD : mg "_law_draw" = some (.ref fD)) (gI : mg "int" = none) (gN : mg "len" = none) (gL : mg "list" = none) (gR : mg "range" = none) : FnOk P w K mg base CX0 2 f fd ["stream", "some"] (spMixed K) := by
  have G : FnOk P w K mg base CX0 1 fD fdD ["stream", "many"] spDraw := ok_draw FD gI
  have b := FD.binds (ps := ["stream", "many"]) fun _ _ _ _ _ _ us hl => match us, hl with | [_, _], _ => rfl
  refine F.ok scMixed (fun vs H Q E h => by obtain ⟨l, ls, c, xs, N, e, _⟩ := h; rw [e]; rfl) fun cdv A outer s H vs Q E hr hsp => ?_
  obtain ⟨l, ls, c, xs, N, rfl, hS, hN, hc, h1, hq⟩ := hsp
  have nd := scMixed.nd
  refine ⟨_, pss_cons (ps_set (i := 2) nd rfl (Or.inr rfl) (pe_callTy call_list_of rfl gL (by decide +kernel) (pa_cons (pv 1) pa_nil)))
    (pss_one (ps_ret (pe_lc (own := [("k", 3)]) (tt := tYes) (te := tBM K "list" rPopAt (tVar 2) (tCons (tCall spDraw [] E0 (tCons (tVar 0) (tCons (tCB (rLen K) (tCons (tVar 2) tNil)) tNil))) tNil)) rfl nd (pi_range1 rfl gR (pa_cons (pe_callB call_len rfl gN boot_len (pa_cons (pv 2) pa_nil)) pa_nil)) (blkOk_by (N := ["stream", "some", "left", "k"]) (sc := defScope sMixed) (by decide +kernel))
      (fun _ _ _ _ _ => pg_name (i := 3) nd rfl (Or.inl rfl)) (fun _ _ _ _ _ => pts_nil)
      (fun _ _ _ _ _ => pe_bm PySem.F.plainAttrs_list PySem.F.slot_list_pop PySem.F.type_list_pop mt_popAt (pv 2) (pa_cons (pe_call G hr rfl gD FD.kp b .nil pass0 (pa_cons (pv 0) (pa_cons (pe_callB call_len rfl gN boot_len (pa_cons (pv 2) pa_nil)) pa_nil))) pa_nil))))), ?_⟩
  refine ⟨_, rfl, c, xs, rfl, .inl hc, fun p np => ?_⟩
  have kp := same_new (o := .lst xs) np
  have ap := hS.apart (Same.refl _) np
  refine ⟨_, rfl, .ref p, xs.length, rfl, .inl ⟨_, SqL.of upd_same, rfl⟩, _, rfl, by omega, by omega, fun q nq => ?_⟩
  have aq := hS.apart kp nq
  have pq : p ≠ q := fun z => by rw [← z, upd_same] at nq; cases nq
  have nq0 : H q = none := Same.free kp nq
  refine lc_range (n := xs.length) (fun i H' => ∃ done rest, H' q = some (.lst done) ∧ H' p = some (.lst rest) ∧ done.length = i ∧ (done ++ rest).Perm xs ∧ Strm H' l ls (N + i) ∧ But l ls H H')
    ⟨[], xs, upd_same, by rw [upd_ne pq]; exact upd_same, rfl, List.Perm.refl _, by simpa using ((hS.same kp).same (same_new nq)), But.of (kp.trans (same_new nq))⟩ ?_ ?_
  · rintro i H3 hi ⟨done, rest, oq, op, ln, pm, S3, B3⟩
    have hlen : done.length + rest.length = xs.length := by rw [← pm.length_eq, List.length_append]
    refine ⟨rfl, ?_⟩
    refine ⟨_, rfl, .inl ⟨rfl, _, SqL.of op⟩, _, rfl, _, rfl, .ref p, rest.length, rfl, .inl ⟨_, SqL.of op, rfl⟩, ?_⟩
    refine ⟨l, ls, _, _, rfl, S3, by omega, by omega, by omega, fun H4 r r0 r1 S4 B4 => ?_⟩
    have hr2 : r.toNat < rest.length := by omega
    have er : ((r.toNat : Nat) : Int) = r := by omega
    have ix0 : ixN rest.length r = some r.toNat := by
      unfold ixN
      rw [if_pos r0, if_pos r1]
    refine ⟨p, rest, r, r.toNat, rest[r.toNat], rfl, rfl, B4 _ _ ap.1 ap.2 op, by omega, by omega, (ixN_seq ix0).1, by simp, done, ?_, (by rw [sizeLine_eq]; omega), done ++ [rest[r.toNat]], rest.eraseIdx r.toNat, upd_same, ?_, by simp [ln], ?_, ?_, ?_⟩
    · rw [upd_ne (Ne.symm pq)]; exact B4 _ _ aq.1 aq.2 oq
    · rw [upd_ne pq, upd_same]
    · have z := pop_perm rest r.toNat rest[r.toNat] (by simp)
      rw [List.append_assoc]
      exact (List.Perm.append_left done z).trans pm
    · obtain ⟨cs, g, k, m, S⟩ := S4
      have e1 : N + ((i + 1 : Nat) : Int) = N + (i : Int) + 1 := by omega
      rw [e1]
      exact ⟨cs, g, k, m, by rw [upd_ne (Ne.symm aq.1), upd_ne (Ne.symm ap.1)]; exact S.o, by rw [upd_ne (Ne.symm aq.2), upd_ne (Ne.symm ap.2)]; exact S.c, S.ne, S.g0, S.k0, S.k1, S.m0, S.m1, S.sz⟩
    · intro b o h1 h2 e
      have nb : b ≠ q := ne_of_none e nq0
      have nb2 : b ≠ p := ne_of_none e np
      rw [upd_ne nb, upd_ne nb2]
      exact B4 _ _ h1 h2 (B3 _ _ h1 h2 e)
  · rintro H3 ⟨done, rest, oq, op, ln, pm, S3, B3⟩
    have hlen : done.length + rest.length = xs.length := by rw [← pm.length_eq, List.length_append]
    have er : rest = [] := List.eq_nil_of_length_eq_zero (by omega)
    subst er
    rw [List.append_nil] at pm
    exact hq H3 q done pm nq0 oq S3 B3
end
end L2.TB
namespace L2.TB
open PySem PySem.Spec PyProof.Rows
theorem Strm.mono {H : Hp} {l ls : Addr} {N M : Int} (h : Strm H l ls N) (le : N ≤ M) : Strm H l ls M := by
  obtain ⟨cs, g, k, m, S⟩ := h
  exact ⟨cs, g, k, m, S.o, S.c, S.ne, S.g0, S.k0, by have := S.k1; omega, S.m0, S.m1, S.sz⟩
/-- some of a mixed list -/
def spSome (K : PySem.W.Frag) : Sp := fun vs H Q _ => ∃ (l ls c : Addr) (xs : List V) (N : Int), vs = [.ref l, .ref c] ∧ Strm H l ls N ∧ N ≤ 800000 ∧ H c = some (.lst xs) ∧ c ≠ l ∧ c ≠ ls ∧ xs.length < 100 ∧
  ∀ H' q ys zs, (ys ++ zs).Perm xs → H q = none → H' q = some (.lst ys) → Strm H' l ls (N + 200) → But l ls H H' → Q (.ref q) H'
theorem scSome : FnScope ["stream", "names"] ["stream", "names"] (defScope sSome) := ⟨rfl, rfl, rfl, by decide +kernel, rfl, by decide +kernel, by decide +kernel⟩
theorem cut_to (xs : List V) (r : Int) (h0 : 0 ≤ r) (h1 : r < xs.length + 1) : cutV xs none (some r) = xs.take r.toNat := by
  have e1 : HT.sIx xs.length 0 none = 0 := rfl
  have e2 : HT.sIx xs.length xs.length (some r) = r.toNat := by
    unfold HT.sIx
    simp only []
    rw [if_neg (show ¬ r < 0 by omega)]
    omega
  unfold cutV
  rw [e1, e2]; simp
section
variable {P : Program} {w : World} {K : PySem.W.Frag} {mg : Str → Option Value} {base : Heap} {f fD fP fM : Addr} {fd fdD fdP fdM : FuncData}
theorem ok_some (F : Fun K "_law_t_some" "_law_t_some" sSome f fd) (FM : Fun K "_law_mixed" "_law_mixed" sMixed fM fdM) (gM : mg "_law_mixed" = some (.ref fM)) (FD : Fun K "_law_draw" "_law_draw" sDraw fD fdD)
    (gD : mg "_law_draw" = some (.ref fD)) (gI : mg "int" = none) (gN : mg "len" = none) (gL : mg "list" = none) (gR : mg "range" = none) : FnOk P w K mg base CX0 3 f fd ["stream", "names"] (spSome K) := by
  have G : FnOk P w K mg base CX0 1 fD fdD ["stream", "many"] spDraw := ok_draw FD gI
  have b := FD.binds (ps := ["stream", "many"]) fun _ _ _ _ _ _ us hl => match us, hl with | [_, _], _ => rfl
  have GM : FnOk P w K mg base CX0 2 fM fdM ["stream", "some"] (spMixed K) := ok_mixed FM FD gD gI gN gL gR
  have bM := FM.binds (ps := ["stream", "some"]) fun _ _ _ _ _ _ us hl => match us, hl with | [_, _], _ => rfl
  refine F.ok scSome (fun vs H Q E h => by obtain ⟨l, ls, c, xs, N, e, _⟩ := h; rw [e]; rfl) fun cdv A outer s H vs Q E hr hsp => ?_
  obtain ⟨l, ls, c, xs, N, rfl, hS, hN, hc, cl, cls, h1, hq⟩ := hsp
  refine ⟨_, pss_one (ps_ret (pe_slice sl_list (pe_call GM hr rfl gM FM.kp bM .nil pass0 (pa_cons (pv 0) (pa_cons (pv 1) pa_nil))) po_none (po_some (pe_call G (hr.mono (by decide)) rfl gD FD.kp b .nil pass0 (pa_cons (pv 0) (pa_cons (pe_op op_add (pe_callB call_len rfl gN boot_len (pa_cons (pv 1) pa_nil)) pe_int) pa_nil)))))), ?_⟩
  refine ⟨_, rfl, _, rfl, l, ls, c, xs, N, rfl, hS, by omega, SqL.of hc, by omega, fun H1 q ys pm nq oq S1 B1 => ?_⟩
  have aq := hS.apart (Same.refl _) nq
  have hcl := B1 _ _ cl cls hc
  refine ⟨_, rfl, _, rfl, .ref c, xs.length, rfl, .inl ⟨_, SqL.of hcl, rfl⟩, _, _, rfl, rfl, ?_⟩
  refine ⟨l, ls, _, _, rfl, S1, by omega, by omega, by omega, fun H2 r r0 r1 S2 B2 => ?_⟩
  refine ⟨r, rfl, q, ys, rfl, SqL.of (B2 _ _ aq.1 aq.2 oq), fun p np => ?_⟩
  have ly : ys.length = xs.length := pm.length_eq
  rw [cut_to ys r r0 (by rw [ly]; exact r1)]
  refine hq _ p (ys.take r.toNat) (ys.drop r.toNat) (by rw [List.take_append_drop]; exact pm) ?_ upd_same ((S2.same (same_new np)).mono (by omega)) ((B1.trans B2).trans (But.of (same_new np)))
  have ap := S2.apart (Same.refl _) np
  cases e : H p with
  | none => rfl
  | some o => have z := (B1.trans B2) _ _ ap.1 ap.2 e; rw [z] at np; cases np
end
end L2.TB
namespace L2.TB
open PySem PySem.Spec PyProof.Rows
def signsL : List Nat := (Str.ofString "abcdefghijklmnopqrstuvwxyz0123456789.").cps.toList
/-- a name that is_name lets pass -/
def NmOk (x : Str) : Prop := 1 ≤ x.cps.toList.length ∧ x.cps.toList.length ≤ 40 ∧ ∀ c ∈ x.cps.toList, c ∈ signsL
def wordL : List Nat := (Str.ofString "abcxyz019").cps.toList
def letL : List Nat := (Str.ofString "abcdefghijklmnopqrstuvwxyz").cps.toList
theorem word_sub : ∀ c ∈ wordL, c ∈ signsL := by decide +kernel
theorem let_sub : ∀ c ∈ letL, c ∈ signsL := by decide +kernel
theorem join_flat : ∀ cs : List Nat, TL.joinL [] (cs.map fun c => [c]) = cs
  | [] => rfl
  | [c] => rfl
  | c :: d :: r => by
    show [c] ++ ([] ++ TL.joinL [] ((d :: r).map fun c => [c])) = _
    rw [join_flat (d :: r)]; rfl
theorem join_cps (cs : List Nat) : (Txt.join (Str.ofString "") (cs.map fun c => (⟨#[c]⟩ : Str))).cps.toList = cs := by
  rw [TL.join_eq]
  have e := TL.tl_join (Str.ofString "") (cs.map fun c => (⟨#[c]⟩ : Str))
  have e2 : (cs.map fun c => (⟨#[c]⟩ : Str)).map TL.tl = cs.map fun c => [c] := by rw [List.map_map]; rfl
  have e3 : TL.tl (Str.ofString "") = [] := by decide +kernel
  rw [e2, e3, join_flat] at e
  exact e
/-- the spare names: a letter and q -/
def spare (c : Nat) : Str := (⟨#[c]⟩ : Str) ++ Str.ofString "q"
theorem spare_ok : ∀ c ∈ letL, NmOk (spare c) := by
  unfold NmOk
  decide +kernel
theorem spare_nd : (letL.map spare).Nodup := by decide +kernel
theorem str_inj (a b : Str) : eqV (.str a) (.str b) = decide (a = b) := by
  show (a == b) = _
  by_cases h : a = b
  · subst h; simp
  · rw [decide_eq_false h]; simpa using h
theorem inV_strs (x : Str) : ∀ xs : List Str, inV (.str x) (xs.map V.str) = decide (x ∈ xs)
  | [] => by simp [inV]
  | a :: xs => by
    have e := inV_strs x xs
    unfold inV at e ⊢
    rw [List.map_cons, List.any_cons, e, str_inj]
    by_cases h : a = x
    · subst h; simp
    · by_cases h2 : x ∈ xs
      · simp [h2]
      · simp [h, h2, Ne.symm h]
theorem flat_strs (xs : List Str) : (xs.map V.str).all flatV = true := by
  rw [List.all_map]; exact List.all_eq_true.mpr fun _ _ => rfl
/-- some spare name is not among the found ones -/
theorem spare_left (w : Str) (found : List Str) (h : found.length < 26) : ((w :: letL.map spare).filter fun x => decide (x ∉ found)) ≠ [] := by
  intro e
  have sub : ∀ x ∈ letL.map spare, x ∈ found := fun x hx => by
    by_cases h2 : x ∈ found
    · exact h2
    · have z : x ∈ (w :: letL.map spare).filter fun x => decide (x ∉ found) := List.mem_filter.mpr ⟨List.mem_cons_of_mem _ hx, by simp [h2]⟩
      rw [e] at z; cases z
  have le := List.Nodup.length_le_of_subset spare_nd (fun x hx => sub x hx)
  have e26 : (letL.map spare).length = 26 := by decide +kernel
  omega
def spNames : Sp := fun vs H Q _ => ∃ (l ls : Addr) (many N : Int), vs = [.ref l, .int many] ∧ Strm H l ls N ∧ N ≤ 900000 ∧ 0 ≤ many ∧ many ≤ 20 ∧
  ∀ H' q (ns : List Str), (ns.length : Int) = many → ns.Nodup → (∀ x ∈ ns, NmOk x) → H q = none → H' q = some (.lst (ns.map V.str)) → Strm H' l ls (N + 5 * many) → But l ls H H' → Q (.ref q) H'
abbrev NN : List Str := ["stream", "many", "found", "k", "word", "spares", "sign", "letter", "one"]
theorem scNames : FnScope NN ["stream", "many"] (defScope sNames) := ⟨rfl, rfl, rfl, by decide +kernel, rfl, by decide +kernel, by decide +kernel⟩
section
variable {P : Program} {w : World} {K : PySem.W.Frag} {mg : Str → Option Value} {base : Heap} {f fD fP fM : Addr} {fd fdD fdP fdM : FuncData}
theorem ok_names (F : Fun K "_law_t_names" "_law_t_names" sNames f fd) (FP : Fun K "_law_pick" "_law_pick" sPick fP fdP) (gP : mg "_law_pick" = some (.ref fP)) (FD : Fun K "_law_draw" "_law_draw" sDraw fD fdD)
    (gD : mg "_law_draw" = some (.ref fD)) (gI : mg "int" = none) (gN : mg "len" = none) (gR : mg "range" = none) : FnOk P w K mg base CX0 3 f fd ["stream", "many"] spNames := by
  have G : FnOk P w K mg base CX0 1 fD fdD ["stream", "many"] spDraw := ok_draw FD gI
  have b := FD.binds (ps := ["stream", "many"]) fun _ _ _ _ _ _ us hl => match us, hl with | [_, _], _ => rfl
  have GP : FnOk P w K mg base CX0 2 fP fdP ["stream", "some"] spPickS := ok_pickS FP FD gD gI gN
  have bP := FP.binds (ps := ["stream", "some"]) fun _ _ _ _ _ _ us hl => match us, hl with | [_, _], _ => rfl
  refine F.ok scNames (fun vs H Q E h => by obtain ⟨l, ls, many, N, e, _⟩ := h; rw [e]; rfl) fun cdv A outer s H vs Q E hr hsp => ?_
  obtain ⟨l, ls, many, N, rfl, hS, hN, h0, h1, hq⟩ := hsp
  have nd := scNames.nd
  refine ⟨_, pss_cons (ps_set (i := 2) nd rfl (Or.inr rfl) (pe_lst pa_nil))
    (pss_cons (ps_for PassesOwn.never rfl (pi_range1 rfl gR (pa_cons (pv 1) pa_nil)) (pg_name (i := 3) nd rfl (Or.inl rfl))
      (pss_cons (ps_set (i := 4) nd rfl (Or.inl rfl) (pe_join pe_str (pe_lc (own := [("sign", 6)]) (tt := tYes) rfl nd (pi_range1 rfl gR (pa_cons (pe_op op_add pe_int (pe_call G (hr.mono (by decide)) rfl gD FD.kp b .nil pass0 (pa_cons (pv 0) (pa_cons pe_int pa_nil)))) pa_nil))
          (blkOk_by (N := NN) (sc := defScope sNames) (by decide +kernel)) (fun _ _ _ _ _ => pg_name (i := 6) nd rfl (Or.inl rfl)) (fun _ _ _ _ _ => pts_nil) (fun _ _ _ _ _ => pe_call GP hr rfl gP FP.kp bP .nil pass0 (pa_cons (pv 0) (pa_cons pe_str pa_nil))))))
      (pss_cons (ps_set (i := 5) nd rfl (Or.inl rfl) (pe_op op_cat (pe_lst (pa_cons (pv 4) pa_nil)) (pe_lc (own := [("letter", 7)]) (tt := tYes) rfl nd (pi_str pe_str) (blkOk_by (N := NN) (sc := defScope sNames) (by decide +kernel))
          (fun _ _ _ _ _ => pg_name (i := 7) nd rfl (Or.inl rfl)) (fun _ _ _ _ _ => pts_nil) (fun _ _ _ _ _ => pe_op op_add_str (pv 7) pe_str))))
      (pss_one (ps_expr (pe_bm PySem.F.plainAttrs_list PySem.F.slot_list_append PySem.F.type_list_append mt_append (pv 2) (pa_cons (pe_ix ix_list (pe_lc (own := [("one", 8)]) (tt := tTest (tOp (rIn K true) (tVar 8) (tVar 2))) rfl nd (pi_list (pv 5)) (blkOk_by (N := NN) (sc := defScope sNames) (by decide +kernel))
          (fun _ _ _ _ _ => pg_name (i := 8) nd rfl (Or.inl rfl)) (fun _ _ _ _ _ => pts_one (pt_cmpR op_notIn_seq (pv 8) (pv 2) rfl)) (fun _ _ _ _ _ => pv 8)) pe_int (fun _ _ => rfl)) pa_nil)))))))
    (pss_one (ps_ret (pv 2)))), ?_⟩
  refine ⟨Nat.zero_le _, fun q nq => ?_⟩
  have aq := hS.apart (Same.refl _) nq
  refine ⟨_, rfl, many, rfl, by omega, by omega, for_range (n := many.toNat) (fun i σ H' => ∃ ns : List Str, H' q = some (.lst (ns.map V.str)) ∧ ns.length = i ∧ ns.Nodup ∧ (∀ x ∈ ns, NmOk x) ∧ Strm H' l ls (N + 5 * i) ∧ But l ls H H' ∧
    ∃ s3 s4 s5 s6 s7 s8, σ = [some (.ref l), some (.int many), some (.ref q), s3, s4, s5, s6, s7, s8])
    ⟨[], upd_same, rfl, .nil, fun x hx => by simp at hx, by simpa using hS.same (same_new nq), But.of (same_new nq), _, _, _, _, _, _, rfl⟩ ?_ ?_⟩
  · rintro i σ H1 hi ⟨ns, oq, ln, nn, nok, S1, B1, s3, s4, s5, s6, s7, s8, rfl⟩
    have hi2 : (i : Int) < 20 := by omega
    -- the word
    refine ⟨⟨_, rfl⟩, _, rfl, l, ls, 3, _, rfl, S1, by omega, by decide, by decide, fun H2 r r0 r1 S2 B2 => ?_⟩
    refine ⟨_, _, rfl, rfl, 1 + r, rfl, by omega, by omega, fun D nD => ?_⟩
    have aD := S2.apart (Same.refl _) nD
    refine lc_range (n := (1 + r).toNat) (fun j H' => ∃ cs : List Nat, H' D = some (.lst (cs.map fun c => V.str ⟨#[c]⟩)) ∧ cs.length = j ∧ (∀ c ∈ cs, c ∈ wordL) ∧ Strm H' l ls (N + 5 * i + 1 + j) ∧ But l ls H2 H')
      ⟨[], upd_same, rfl, fun c hc => by simp at hc, by simpa using S2.same (same_new nD), But.of (same_new nD)⟩ ?_ ?_
    · rintro j H3 hj ⟨cs, oD, lc, cok, S3, B3⟩
      refine ⟨rfl, ?_⟩
      refine ⟨_, rfl, l, ls, _, _, rfl, S3, by omega, by decide +kernel, by decide +kernel, fun H4 c hc S4 B4 => ?_⟩
      have oD4 := B4 _ _ aD.1 aD.2 oD
      refine ⟨_, oD4, (by rw [sizeLine_eq, List.length_map]; omega), cs ++ [c], by rw [upd_same]; simp, by simp [lc], ?_, ?_, ?_⟩
      · intro d hd
        rcases List.mem_append.mp hd with h | h
        · exact cok d h
        · obtain rfl : d = c := by simpa using h
          exact hc
      · obtain ⟨cs', g, k, m, S⟩ := S4
        exact Strm.mono ⟨cs', g, k, m, by rw [upd_ne (Ne.symm aD.1)]; exact S.o, by rw [upd_ne (Ne.symm aD.2)]; exact S.c, S.ne, S.g0, S.k0, S.k1, S.m0, S.m1, S.sz⟩ (by omega)
      · intro b o h1 h2 e
        have nb : b ≠ D := ne_of_none e nD
        rw [upd_ne nb]
        exact B4 _ _ h1 h2 (B3 _ _ h1 h2 e)
    · rintro H3 ⟨cs, oD, lc, cok, S3, B3⟩
      have lc3 : 1 ≤ cs.length ∧ cs.length ≤ 3 := by omega
      have em : (cs.map fun c => V.str ⟨#[c]⟩) = (cs.map fun c => (⟨#[c]⟩ : Str)).map V.str := by rw [List.map_map]; rfl
      rw [em] at oD
      have sums : ∀ l : List Nat, ((l.map fun c => (⟨#[c]⟩ : Str)).map (·.length)).sum = l.length := fun l => by
        induction l with
        | nil => rfl
        | cons a l ih => rw [List.map_cons, List.map_cons, List.sum_cons, ih, List.length_cons]; show 1 + _ = _; omega
      refine ⟨_, D, _, rfl, rfl, .inl (SqL.of oD), ?_, ?_⟩
      · rw [sums, List.length_map]; show cs.length + cs.length * 0 ≤ _; omega
      have hw : (Txt.join (Str.ofString "") (cs.map fun c => (⟨#[c]⟩ : Str))).cps.toList = cs := join_cps cs
      generalize Txt.join (Str.ofString "") (cs.map fun c => (⟨#[c]⟩ : Str)) = wd at hw
      have wok : NmOk wd := by
        unfold NmOk
        rw [hw]
        exact ⟨lc3.1, by omega, fun c hc => word_sub c (cok c hc)⟩
      have B13 := B2.trans B3
      have oq3 := B13 _ _ aq.1 aq.2 oq
      -- the spare names
      refine ⟨_, rfl, (by rw [sizeLine_eq]; show 1 ≤ _; omega), fun a1 n1 => ?_⟩
      have k1 := same_new (o := .lst [.str wd]) n1
      have e26 : (Str.ofString "abcdefghijklmnopqrstuvwxyz").cps.size = 26 := by decide +kernel
      have l26 : letL.length = 26 := by decide +kernel
      refine ⟨_, rfl, fun D2 nD2 => ⟨fun j m H' => m = 26 - j ∧ j ≤ 26 ∧ H' D2 = some (.lst ((letL.take j).map fun c => V.str (spare c))) ∧ Same (upd H3 a1 (.lst [.str wd])) H',
        ⟨26, rfl, by decide, upd_same, same_new nD2⟩, ?_⟩⟩
      rintro j m H4 ⟨rfl, hj, oD2, sm4⟩
      by_cases lt : j < 26
      · refine .inr ⟨(by show j < _; rw [e26]; exact lt), fun H' => H' D2 = some (.lst ((letL.take (j + 1)).map fun c => V.str (spare c))) ∧ Same (upd H3 a1 (.lst [.str wd])) H', fun H' h => ⟨26 - (j + 1), by omega, rfl, lt, h⟩, ?_⟩
        rintro v H' ⟨rfl, c, hc, rfl⟩
        have hc2 : letL[j]? = some c := by
          unfold letL
          rw [Array.getElem?_toList]; exact hc
        refine ⟨rfl, ?_⟩
        refine ⟨_, rfl, _, _, rfl, rfl, (by rw [sizeLine_eq]; show 1 + 1 ≤ _; omega), _, oD2, (by rw [sizeLine_eq, List.length_map, List.length_take]; omega), ?_, fun b o e => by rw [upd_ne (ne_of_none e nD2)]; exact sm4 b o e⟩
        rw [upd_same, List.take_succ, hc2]
        simp [spare]
      · have j26 : j = 26 := by omega
        refine .inl ⟨(by show _ ≤ j; rw [e26]; omega), ?_⟩
        have et : letL.take j = letL := List.take_of_length_le (by omega)
        rw [et] at oD2
        refine ⟨a1, D2, _, _, rfl, rfl, sm4 _ _ upd_same, oD2, (by rw [sizeLine_eq, List.length_map, l26]; show 1 + 26 ≤ _; omega), fun p np => ?_⟩
        have esp : [V.str wd] ++ letL.map (fun c => V.str (spare c)) = (wd :: letL.map spare).map V.str := by simp [List.map_map]
        rw [esp]
        have spl : (wd :: letL.map spare).length = 27 := by rw [List.length_cons, List.length_map, l26]
        have spok : ∀ x ∈ (wd :: letL.map spare), NmOk x := fun x hx => by
          rcases List.mem_cons.mp hx with h | h
          · rw [h]; exact wok
          · obtain ⟨c, hc, rfl⟩ := List.mem_map.mp h
            exact spare_ok c hc
        have hne := spare_left wd ns (by omega)
        generalize wd :: letL.map spare = sp at spl spok hne
        have k5 := same_new (o := .lst (sp.map V.str)) np
        have k35 := (k1.trans sm4).trans k5
        refine ⟨_, rfl, .inl ⟨rfl, _, SqL.of (k35 _ _ oq3)⟩, _, rfl, p, rfl, ⟨_, SqL.of upd_same⟩, fun D3 nD3 => ?_⟩
        refine lc_list (xs := sp.map V.str) (fun j H' => H' D3 = some (.lst (((sp.take j).filter fun x => decide (x ∉ ns)).map V.str)) ∧ Same (upd H4 p (.lst (sp.map V.str))) H')
          ⟨by rw [upd_same]; rfl, same_new nD3⟩ (fun j H' _ h => SqL.of (h.2 _ _ upd_same)) ?_ ?_
        · rintro j v H6 ev ⟨oD3, sm6⟩
          rw [List.getElem?_map] at ev
          obtain ⟨x, ex, rfl⟩ := Option.map_eq_some_iff.mp ev
          have et2 : sp.take (j + 1) = sp.take j ++ [x] := by rw [List.take_succ, ex]; rfl
          refine ⟨rfl, ?_⟩
          refine ⟨_, rfl, _, rfl, q, ns.map V.str, rfl, .inl (SqL.of (sm6 _ _ (k35 _ _ oq3))), rfl, flat_strs ns, _, rfl, ?_⟩
          rw [inV_strs]
          by_cases hx : x ∈ ns
          · rw [decide_eq_true hx]
            refine iteF ?_
            refine ⟨?_, sm6⟩
            rw [et2, List.filter_append]
            simpa [hx] using oD3
          · rw [decide_eq_false hx]
            refine iteT ?_
            refine ⟨_, rfl, _, oD3, ?_, ?_, fun b o e => by rw [upd_ne (ne_of_none e nD3)]; exact sm6 b o e⟩
            · have z := List.length_filter_le (fun x => decide (x ∉ ns)) (sp.take j)
              rw [List.length_take] at z
              rw [sizeLine_eq, List.length_map]; omega
            · rw [upd_same, et2, List.filter_append]
              simp [hx]
        · rintro H6 ⟨oD3, sm6⟩
          have ef : sp.take (sp.map V.str).length = sp := List.take_of_length_le (by rw [List.length_map]; omega)
          rw [ef] at oD3
          have oq6 := sm6 _ _ (k35 _ _ oq3)
          cases efl : sp.filter fun x => decide (x ∉ ns) with
          | nil => exact absurd efl hne
          | cons y rest =>
            rw [efl] at oD3
            have hy : y ∈ sp.filter fun x => decide (x ∉ ns) := by rw [efl]; exact List.mem_cons_self
            obtain ⟨hy1, hy2⟩ := List.mem_filter.mp hy
            have hy3 : y ∉ ns := by simpa using hy2
            refine ⟨D3, _, 0, .str y, rfl, rfl, SqL.of oD3, atI_nat (j := 0) (by simp), ?_⟩
            refine ⟨q, ns.map V.str, .str y, rfl, rfl, oq6, (by rw [sizeLine_eq, List.length_map]; omega), ns ++ [y], by rw [upd_same]; simp, by simp [ln], ?_, ?_, ?_, ?_, _, _, _, _, _, _, rfl⟩
            · rw [List.nodup_append]
              exact ⟨nn, by simp, fun a ha b hb => by
                obtain rfl : b = y := by simpa using hb
                exact fun z => hy3 (z ▸ ha)⟩
            · intro x hx
              rcases List.mem_append.mp hx with h | h
              · exact nok x h
              · obtain rfl : x = y := by simpa using h
                exact spok _ hy1
            · obtain ⟨cs', g, k, m, S⟩ := (S3.same k35).same sm6
              exact Strm.mono ⟨cs', g, k, m, by rw [upd_ne (Ne.symm aq.1)]; exact S.o, by rw [upd_ne (Ne.symm aq.2)]; exact S.c, S.ne, S.g0, S.k0, S.k1, S.m0, S.m1, S.sz⟩ (by omega)
            · intro b o h1 h2 e
              have nb : b ≠ q := ne_of_none e nq
              rw [upd_ne nb]
              exact sm6 _ _ (k35 _ _ (B13 _ _ h1 h2 (B1 _ _ h1 h2 e)))
  · rintro σ H1 ⟨ns, oq, ln, nn, nok, S1, B1, s3, s4, s5, s6, s7, s8, rfl⟩
    have em : ((many.toNat : Nat) : Int) = many := by omega
    rw [em] at S1
    exact ⟨_, rfl, hq H1 q ns (by omega) nn nok nq oq S1 B1⟩
end
end L2.TB
namespace L2.TB
open PySem PySem.Spec PyProof.Rows
theorem paired_snoc {α β : Type} {F : α → β → Prop} {x : α} {y : β} (h : F x y) : ∀ {xs : List α} {ys : List β}, Paired F xs ys → Paired F (xs ++ [x]) (ys ++ [y])
  | _, _, .nil => .cons h .nil
  | _, _, .cons r t => .cons r (paired_snoc h t)
theorem paired_map {α β γ : Type} {F : α → γ → Prop} {g : β → γ} : ∀ {xs : List α} {ys : List β}, Paired (fun x y => F x (g y)) xs ys → Paired F xs (ys.map g)
  | _, _, .nil => .nil
  | _, _, .cons r t => .cons r (paired_map t)
/-- the pairs of a row: names and ints -/
def dk (ns : List Str) (vs : List Int) : List (Key × V) := (ns.zip vs).map fun p => (Sum.inr p.1, V.int p.2)
theorem merge_new : ∀ (more acc : List (Key × V)), ((acc ++ more).map (·.1)).Nodup → mergeK acc more = acc ++ more
  | [], acc, _ => by simp [mergeK]
  | p :: more, acc, h => by
    have hn : valV acc p.1 = none := by
      cases e : valV acc p.1 with
      | none => rfl
      | some v =>
        exfalso
        have z : (valV acc p.1).isSome = true := by rw [e]; rfl
        rw [← valV_any, List.any_eq_true] at z
        obtain ⟨q, hq, hq2⟩ := z
        have hq3 : q.1 = p.1 := of_decide_eq_true hq2
        rw [List.map_append, List.nodup_append] at h
        exact h.2.2 q.1 (List.mem_map_of_mem hq) p.1 (List.mem_map_of_mem List.mem_cons_self) hq3
    show mergeK (putK acc p.1 p.2) more = _
    rw [putK_new p.2 hn, merge_new more _ (by rw [List.append_assoc]; exact h), List.append_assoc]
    rfl
theorem merge_nd {kvs : List (Key × V)} (h : (kvs.map (·.1)).Nodup) : mergeK [] kvs = kvs := by
  rw [merge_new kvs [] (by simpa using h), List.nil_append]
theorem dk_keys {ns : List Str} {vs : List Int} (h : ns.length = vs.length) : (dk ns vs).map (·.1) = ns.map Sum.inr := by
  unfold dk
  rw [List.map_map]
  have e : ((fun x => x.1) ∘ fun p : Str × Int => ((Sum.inr p.1 : Key), V.int p.2)) = (fun p : Str × Int => (Sum.inr p.1 : Key)) := rfl
  rw [e]
  have e2 : (ns.zip vs).map (fun p : Str × Int => (Sum.inr p.1 : Key)) = ((ns.zip vs).map Prod.fst).map Sum.inr := by rw [List.map_map]; rfl
  rw [e2, List.map_fst_zip (by omega)]
theorem dk_nd {ns : List Str} {vs : List Int} (h : ns.length = vs.length) (nd : ns.Nodup) : ((dk ns vs).map (·.1)).Nodup := by
  rw [dk_keys h]
  exact List.Pairwise.map Sum.inr (fun a b h e => h (Sum.inr.inj e)) nd
/-- rows as they are drawn: at as dicts with the names ns and the ints of tbl -/
def RowsAt (H : Hp) (l ls : Addr) (ns : List Str) : List Addr → List (List Int) → Prop :=
  Paired fun a vs => H a = some (.dK (dk ns vs)) ∧ vs.length = ns.length ∧ a ≠ l ∧ a ≠ ls
theorem RowsAt.but {H H' : Hp} {l ls : Addr} {ns : List Str} {as : List Addr} {tbl : List (List Int)} (r : RowsAt H l ls ns as tbl) (b : But l ls H H') : RowsAt H' l ls ns as tbl :=
  Paired.mapP r fun a vs h => ⟨b _ _ h.2.2.1 h.2.2.2 h.1, h.2⟩
def spRows : Sp := fun vs H Q _ => ∃ (l ls : Addr) (many rows values N : Int), vs = [.ref l, .int many, .int rows, .int values] ∧ Strm H l ls N ∧ N ≤ 500000 ∧ 0 < many ∧ many ≤ 10 ∧ 0 < rows ∧ rows ≤ 20 ∧ 0 < values ∧ values ≤ 100 ∧
  ∀ H' q as ns tbl, ((ns : List Str).length : Int) ≤ many → ns ≠ [] → ns.Nodup → (∀ x ∈ ns, NmOk x) → (tbl : List (List Int)).length ≤ 20 → tbl ≠ [] → H q = none → q ≠ l → q ≠ ls → H' q = some (.lst (as.map V.ref)) → RowsAt H' l ls ns as tbl →
    Strm H' l ls (N + 1000) → But l ls H H' → Q (.ref q) H'
abbrev NR : List Str := ["stream", "many", "rows", "values", "names", "found", "k", "name"]
theorem scRows : FnScope NR ["stream", "many", "rows", "values"] (defScope sRows) := ⟨rfl, rfl, rfl, by decide +kernel, rfl, by decide +kernel, by decide +kernel⟩
section
variable {P : Program} {w : World} {K : PySem.W.Frag} {mg : Str → Option Value} {base : Heap} {f fD fP fN : Addr} {fd fdD fdP fdN : FuncData}
theorem ok_rows (F : Fun K "_law_t_rows" "_law_t_rows" sRows f fd) (FN : Fun K "_law_t_names" "_law_t_names" sNames fN fdN) (gNm : mg "_law_t_names" = some (.ref fN)) (FP : Fun K "_law_pick" "_law_pick" sPick fP fdP) (gP : mg "_law_pick" = some (.ref fP)) (FD : Fun K "_law_draw" "_law_draw" sDraw fD fdD)
    (gD : mg "_law_draw" = some (.ref fD)) (gI : mg "int" = none) (gN : mg "len" = none) (gR : mg "range" = none) (gDi : mg "dict" = none) : FnOk P w K mg base CX0 4 f fd ["stream", "many", "rows", "values"] spRows := by
  have G : FnOk P w K mg base CX0 1 fD fdD ["stream", "many"] spDraw := ok_draw FD gI
  have b := FD.binds (ps := ["stream", "many"]) fun _ _ _ _ _ _ us hl => match us, hl with | [_, _], _ => rfl
  have GN : FnOk P w K mg base CX0 3 fN fdN ["stream", "many"] spNames := ok_names FN FP gP FD gD gI gN gR
  have bN := FN.binds (ps := ["stream", "many"]) fun _ _ _ _ _ _ us hl => match us, hl with | [_, _], _ => rfl
  refine F.ok scRows (fun vs H Q E h => by obtain ⟨l, ls, a, b, c, N, e, _⟩ := h; rw [e]; rfl) fun cdv A outer s H vs Q E hr hsp => ?_
  obtain ⟨l, ls, many, rws, vals, N, rfl, hS, hN, m0, m1, w0, w1, v0, v1, hq⟩ := hsp
  have nd := scRows.nd
  refine ⟨_, pss_cons (ps_par (i := 4) (j := 5) rfl nd rfl rfl (by decide) rfl rfl (pa_cons (pe_call GN hr rfl gNm FN.kp bN .nil pass0 (pa_cons (pv 0) (pa_cons (pe_op op_add pe_int (pe_call G (hr.mono (by decide)) rfl gD FD.kp b .nil pass0 (pa_cons (pv 0) (pa_cons (pv 1) pa_nil)))) pa_nil))) (pa_cons (pe_lst pa_nil) pa_nil)) (by rfl))
    (pss_cons (ps_for PassesOwn.never rfl (pi_range1 rfl gR (pa_cons (pe_op op_add pe_int (pe_call G (hr.mono (by decide)) rfl gD FD.kp b .nil pass0 (pa_cons (pv 0) (pa_cons (pv 2) pa_nil)))) pa_nil)) (pg_name (i := 6) nd rfl (Or.inl rfl))
      (pss_one (ps_expr (pe_bm PySem.F.plainAttrs_list PySem.F.slot_list_append PySem.F.type_list_append mt_append (pv 5) (pa_cons (pe_callTy (call_dictP rfl) rfl gDi (by decide +kernel) (pa_cons (pe_lc (own := [("name", 7)]) (tt := tYes) rfl nd (pi_list (pv 4)) (blkOk_by (N := NR) (sc := defScope sRows) (by decide +kernel))
        (fun _ _ _ _ _ => pg_name (i := 7) nd rfl (Or.inl rfl)) (fun _ _ _ _ _ => pts_nil) (fun _ _ _ _ _ => pe_tup (pa_cons (pv 7) (pa_cons (pe_op op_sub (pe_call G (hr.mono (by decide)) rfl gD FD.kp b .nil pass0 (pa_cons (pv 0) (pa_cons (pv 3) pa_nil))) pe_int) pa_nil)))) pa_nil)) pa_nil)))))
    (pss_one (ps_ret (pv 5)))), ?_⟩
  refine ⟨_, rfl, _, rfl, _, rfl, l, ls, many, N, rfl, hS, by omega, by omega, by omega, fun H1 r r0 r1 S1 B1 => ?_⟩
  refine ⟨_, _, rfl, rfl, l, ls, 1 + r, N + 1, rfl, S1, by omega, by omega, by omega, fun H2 c ns lns nds oks nc oc S2 B2 => ?_⟩
  have ac := S1.apart (Same.refl _) nc
  have nl : 1 ≤ ns.length ∧ ns.length ≤ 10 := by omega
  refine ⟨Nat.zero_le _, fun q nq => ?_⟩
  have aq := S2.apart (Same.refl _) nq
  have S2' : Strm H2 l ls (N + 60) := S2.mono (by omega)
  have B12 := B1.trans B2
  have cq : c ≠ q := fun z => by rw [z, nq] at oc; cases oc
  refine ⟨_, _, rfl, ?_⟩
  refine ⟨_, rfl, _, rfl, l, ls, rws, _, rfl, S2'.same (same_new nq), by omega, w0, by omega, fun H3 r' r0' r1' S3 B3 => ?_⟩
  have oc3 := B3 _ _ ac.1 ac.2 (same_new nq _ _ oc)
  have oq3 := B3 _ _ aq.1 aq.2 (upd_same (H := H2) (a := q) (o := .lst []))
  have B03 : But l ls H H3 := (B12.trans (But.of (same_new nq))).trans B3
  refine ⟨_, _, rfl, rfl, 1 + r', rfl, by omega, by omega, for_range (n := (1 + r').toNat) (fun i σ H' => (∃ as tbl, H' q = some (.lst ((as : List Addr).map V.ref)) ∧ RowsAt H' l ls ns as tbl ∧ tbl.length = i) ∧ H' c = some (.lst (ns.map V.str)) ∧ Strm H' l ls (N + 70 + 12 * i) ∧ But l ls H H' ∧
    ∃ s6 s7, σ = [some (.ref l), some (.int many), some (.int rws), some (.int vals), some (.ref c), some (.ref q), s6, s7]) ⟨⟨[], [], oq3, .nil, rfl⟩, oc3, S3.mono (by omega), B03, _, _, rfl⟩ ?_ ?_⟩
  · rintro i σ H4 hi ⟨⟨as, tbl, oq4, R4, lt4⟩, oc4, S4, B4, s6, s7, rfl⟩
    have hi2 : (i : Int) < 20 := by omega
    refine ⟨_, rfl, .inl ⟨rfl, _, SqL.of oq4⟩, _, rfl, c, rfl, ⟨_, SqL.of oc4⟩, fun D nD => ?_⟩
    have aD := S4.apart (Same.refl _) nD
    have Dq : D ≠ q := fun z => by rw [z, oq4] at nD; cases nD
    refine lc_list (xs := ns.map V.str) (fun j H' => ∃ ps vs, H' D = some (.lst ((ps : List Addr).map V.ref)) ∧ Paired (fun p (kv : Str × Int) => H' p = some (.tup [.str kv.1, .int kv.2]) ∧ p ≠ l ∧ p ≠ ls) ps ((ns.take j).zip vs) ∧ vs.length = j ∧
      Strm H' l ls (N + 70 + 12 * i + j) ∧ But l ls H4 H') ⟨[], [], upd_same, .nil, rfl, by simpa using S4.same (same_new nD), But.of (same_new nD)⟩ (fun j H' _ h => SqL.of (h.choose_spec.choose_spec.2.2.2.2 _ _ ac.1 ac.2 oc4)) ?_ ?_
    · rintro j v H5 ev ⟨ps, vs, oD, pr, lv, S5, B5⟩
      rw [List.getElem?_map] at ev
      obtain ⟨x, ex, rfl⟩ := Option.map_eq_some_iff.mp ev
      have hj : j < ns.length := (List.getElem?_eq_some_iff.mp ex).1
      have et : ns.take (j + 1) = ns.take j ++ [x] := by rw [List.take_succ, ex]; rfl
      refine ⟨rfl, ?_⟩
      refine ⟨_, rfl, _, rfl, _, rfl, l, ls, vals, _, rfl, S5, by omega, v0, by omega, fun H6 z z0 z1 S6 B6 => ?_⟩
      refine ⟨_, _, rfl, rfl, (by rw [sizeLine_eq]; show 2 ≤ _; omega), fun p np => ?_⟩
      have ap := S6.apart (Same.refl _) np
      have k6 := same_new (o := .tup [.str x, .int (z - 1)]) np
      have oD6 := B6 _ _ aD.1 aD.2 oD
      have pD : p ≠ D := fun y => by rw [y, oD6] at np; cases np
      have lps : ps.length = j := by
        have e := Paired.length pr
        rw [List.length_zip, List.length_take] at e
        omega
      refine ⟨_, k6 _ _ oD6, (by rw [sizeLine_eq, List.length_map]; omega), ps ++ [p], vs ++ [z - 1], by rw [upd_same]; simp, ?_, by simp [lv], ?_, ?_⟩
      · rw [et, List.zip_append (by rw [List.length_take]; omega)]
        refine paired_snoc ⟨by rw [upd_ne pD, upd_same], ap⟩ (Paired.mapP pr fun a kv h => ⟨?_, h.2⟩)
        have na : a ≠ D := fun y => by rw [y, oD] at h; cases h.1
        rw [upd_ne na]
        exact k6 _ _ (B6 _ _ h.2.1 h.2.2 h.1)
      · obtain ⟨cs', g, k, m, S⟩ := S6.same k6
        exact Strm.mono ⟨cs', g, k, m, by rw [upd_ne (Ne.symm aD.1)]; exact S.o, by rw [upd_ne (Ne.symm aD.2)]; exact S.c, S.ne, S.g0, S.k0, S.k1, S.m0, S.m1, S.sz⟩ (by omega)
      · intro b' o h1 h2 e
        have nb : b' ≠ D := ne_of_none e nD
        rw [upd_ne nb]
        exact k6 _ _ (B6 _ _ h1 h2 (B5 _ _ h1 h2 e))
    · rintro H5 ⟨ps, vs, oD, pr, lv, S5, B5⟩
      have etk : ns.take (ns.map V.str).length = ns := List.take_of_length_le (by rw [List.length_map]; omega)
      rw [etk] at pr
      have lv2 : vs.length = ns.length := by rw [lv, List.length_map]
      refine ⟨D, ps, dk ns vs, rfl, SqL.of oD, paired_map (Paired.mapP pr fun p kv h => SqT.of h.1), fun p np => ?_⟩
      rw [merge_nd (dk_nd lv2.symm nds)]
      have ap := S5.apart (Same.refl _) np
      have k5 := same_new (o := .dK (dk ns vs)) np
      have oq5 := k5 _ _ (B5 _ _ aq.1 aq.2 oq4)
      have las : as.length = i := by rw [Paired.length R4, lt4]
      have pq : p ≠ q := fun y => by rw [y, B5 _ _ aq.1 aq.2 oq4] at np; cases np
      have B6 : But l ls (upd H5 p (.dK (dk ns vs))) (upd (upd H5 p (.dK (dk ns vs))) q (.lst (as.map V.ref ++ [.ref p]))) → True := fun _ => trivial
      refine ⟨q, as.map V.ref, .ref p, rfl, rfl, oq5, (by rw [sizeLine_eq, List.length_map]; omega), ⟨as ++ [p], tbl ++ [vs], by rw [upd_same]; simp, ?_, by simp [lt4]⟩, ?_, ?_, ?_, _, _, rfl⟩
      · refine paired_snoc ⟨by rw [upd_ne pq, upd_same], lv2, ap⟩ (Paired.mapP R4 fun a vs' h => ⟨?_, h.2⟩)
        have na : a ≠ q := fun y => by rw [y, oq4] at h; cases h.1
        rw [upd_ne na]
        exact k5 _ _ (B5 _ _ h.2.2.1 h.2.2.2 h.1)
      · rw [upd_ne cq]
        exact k5 _ _ (B5 _ _ ac.1 ac.2 oc4)
      · obtain ⟨cs', g, k, m, S⟩ := S5.same k5
        have lx : (ns.map V.str).length ≤ 10 := by rw [List.length_map]; omega
        exact Strm.mono ⟨cs', g, k, m, by rw [upd_ne (Ne.symm aq.1)]; exact S.o, by rw [upd_ne (Ne.symm aq.2)]; exact S.c, S.ne, S.g0, S.k0, S.k1, S.m0, S.m1, S.sz⟩ (by omega)
      · intro b' o h1 h2 e
        have nb : b' ≠ q := fun y => by
          have z := B12 _ _ h1 h2 e
          rw [y, nq] at z; cases z
        rw [upd_ne nb]
        exact k5 _ _ (B5 _ _ h1 h2 (B4 _ _ h1 h2 e))
  · rintro σ H4 ⟨⟨as, tbl, oq4, R4, lt4⟩, oc4, S4, B4, s6, s7, rfl⟩
    have nq0 : H q = none := by
      cases e : H q with
      | none => rfl
      | some o => have z := B12 _ _ aq.1 aq.2 e; rw [nq] at z; cases z
    have nn : ns ≠ [] := fun z => by rw [z] at nl; simp at nl
    have tn : tbl ≠ [] := fun z => by rw [z] at lt4; simp at lt4; omega
    exact ⟨_, rfl, hq H4 q as ns tbl (by omega) nn nds oks (by omega) tn nq0 aq.1 aq.2 oq4 R4 (S4.mono (by omega)) B4⟩
end
end L2.TB
namespace L2.TB
open PySem
open PySem.Spec PyProof.Rows
/-! for i, x in enumerate(thing), thing a list or a tuple -/
abbrev tupIter (t : Addr) : Obj := { cls := .type "tuple_iterator", data := .fields #[.ref t, .int 0 0] }
abbrev enumRec (q : Addr) : Obj := { cls := .type "enumerate", data := .fields #[.none, .bool false, .ref q, rawInt 0, .none, .none] }
section
variable {P : Program} {w : World}
/-- what enumerate's maker does with a tuple -/
theorem made_enum (t : Addr) (ys : Array Value) : Meets (Builtin.«enumerate.__new__» ⟨[.type "enumerate", .ref t], []⟩) fun _ done z =>
    z.heap.IsTuple t ys ∧ done (.ok (.ret (.ref (z.heap.push (tupIter t)).objs.size))) { z with heap := (z.heap.push (tupIter t)).push (enumRec z.heap.objs.size) } :=
  .of_wp fun _ _ _ _ z hz => by
    obtain ⟨h0, gs, ds, tk, os⟩ := z
    obtain ⟨isT, fin⟩ := hz
    have sub := sub_enumerate
    have step : ∀ {A' : Around} {E' : Value → Shared → Prop} {Q' : Value → Shared → Prop} {P' : Program} {w' : World}, Q' (.ref h0.objs.size) ⟨h0.push (tupIter t), gs, ds, tk, os⟩ → wpAny (model P' w') A' (pyIter (.ref t)) Q' E' ⟨h0, gs, ds, tk, os⟩ :=
      fun more => wpAny_pyIter_tuple (s := ⟨h0, gs, ds, tk, os⟩) isT more
    wp_walk using step
    refine wpAny_stack_any (fun _ => wpAny_pure ?_)
    split
    · rename_i c _ _ _ _ _
      rcases (c == Value.type "enumerate") with _ | _ <;> (wp_walk using step; exact ⟨_, rfl, fin⟩)
    · wp_walk using step
      exact ⟨_, rfl, fin⟩
/-- the call -/
theorem enum_of_tuple {A : Around} {z : Shared} {E Q : Value → Shared → Prop} {t : Addr} {ys : Array Value} (isT : z.heap.IsTuple t ys)
    (more : IsEnum ((z.heap.push (tupIter t)).push (enumRec z.heap.objs.size)) (z.heap.objs.size + 1) z.heap.objs.size 0 .none →
      Q (.ref (z.heap.objs.size + 1)) { z with heap := (z.heap.push (tupIter t)).push (enumRec z.heap.objs.size) }) : wpAny (model P w) A (call (.type "enumerate") [.ref t]) Q E z := by
  refine callType_new F.called_enumerate (by decide) (F.typeCall_enumerate_1 _) (F.newCall_enumerate_1 _) (fun b => F.args_object_init_2 b _) F.entry_enumerate_new (made_enum t ys) ⟨isT, ?_⟩
  have size1 : (z.heap.push (tupIter t)).objs.size = z.heap.objs.size + 1 := Heap.size_push ..
  have rec1 := Heap.get?_push_size (z.heap.push (tupIter t)) (o := enumRec z.heap.objs.size) rfl
  rw [size1] at rec1
  show _ ∧ _
  rw [size1]
  exact ⟨⟨_, rec1, rfl⟩, more rec1⟩
end
/-- the items of the tuple at t, each in a new pair with its number -/
def IteT (K : PySem.W.Frag) (t : Addr) : It where
  go i H := ∃ (ys : List V) (y : V), SqT K H t ys ∧ ys[i]? = some y
  yld i H v H' := ∃ T y, v = .ref T ∧ H T = none ∧ H' = upd H T (.tup [.int (i : Nat), y]) ∧ ∀ ys, SqT K H t ys → ys[i]? = some y
  stop i H := ∃ ys : List V, SqT K H t ys ∧ ys.length ≤ i
/-- three records of three classes stand at three places -/
theorem three {h : Heap} {t q r : Addr} {ys : Array Value} {i : Nat} {c : Int} {old : Value} (isT : h.IsTuple t ys) (isQ : h.IsTupleIter q t i) (isR : IsEnum h r q c old) : t ≠ q ∧ r ≠ t := by
  obtain ⟨ot, gt, ct, _⟩ := isT
  obtain ⟨oq, gq, cq, _⟩ := isQ
  have ct : ot.cls = Value.type "tuple" := ct
  have cq : oq.cls = Value.type "tuple_iterator" := cq
  constructor
  · rintro rfl
    rw [gt] at gq
    injection gq with same
    rw [← same, ct] at cq
    exact absurd cq (by decide)
  · rintro rfl
    have gr := isR
    unfold IsEnum at gr
    rw [gt] at gr
    injection gr with same
    rw [same] at ct
    exact absurd (show Value.type "enumerate" = Value.type "tuple" from ct) (by decide)
theorem two_of {b r q : Addr} {p : Addr → Prop} (hr : p r) (hq : p q) (hb : b ∈ [r, q]) : p b := by
  rcases List.mem_cons.mp hb with rfl | hb
  · exact hr
  · obtain rfl := List.mem_singleton.mp hb
    exact hq
theorem turn_enumT {P : Program} {w : World} {K : PySem.W.Frag} {elts : List Expr} {kk : Nat} {tpos : Pos} (t r q : Addr) :
    Turn P w K (.Tuple elts kk tpos) (IteT K t) [r, q] r (fun i h => r ≠ q ∧ h.IsTupleIter q t i ∧ ∃ old, IsEnum h r q ((i : Nat) : Int) old) := by
  refine ⟨List.mem_cons_self, fun i h st b hb => ?_, fun i h h' st same => ?_, ?_, ?_, fun A i z Q E st more => ?_⟩
  · obtain ⟨_, ⟨oq, gq, _, dq⟩, old, gr⟩ := st
    exact two_of (p := fun b => ∃ o, h.get? b = some o ∧ ∀ v, o.data ≠ .cell v) ⟨_, gr, fun _ e => nomatch e⟩ ⟨oq, gq, fun _ e => by rw [dq] at e; exact nomatch e⟩ hb
  · obtain ⟨ne, gq, old, gr⟩ := st
    exact ⟨ne, gq.at fun o e => same q (List.mem_cons_of_mem _ List.mem_cons_self) o e, old, same r List.mem_cons_self _ gr⟩
  · rintro X rfl rfl rfl calm i pins z σ H E I room ⟨ne, gq, old, gr⟩ ⟨ys, y, isY, nth⟩
    obtain ⟨vs, rel, isT, _⟩ := I.tuple isY
    obtain ⟨v, nthV, relV⟩ := rel.get nth
    have isT : z.heap.IsTuple t vs.toArray := isT
    obtain ⟨tq, rt⟩ := three isT gq gr
    have lr : r < z.heap.objs.size := Heap.lt_size gr
    have lq : q < z.heap.objs.size := gq.elim fun _ e => Heap.lt_size e.1
    have inside : i < vs.toArray.size := by
      have := (List.getElem?_eq_some_iff.mp nthV).1
      simpa using this
    have draws := Draws.tuple (prog := X.prog) (w := X.w) (A := X.A.in1) (I.ok.hd calm) q t tq vs.toArray
    refine wpAny_pyNext_enum_itemC draws gr ⟨gq, isT⟩ inside ne (fun m => two_of (p := fun b => r = b → False) ne rt m rfl) fun v' h1 tk hv out stQ newT _ kept1 => ?_
    obtain rfl : v' = v := by
      have hv : vs.toArray[i]? = some v' := hv
      rw [List.getElem?_toArray, nthV] at hv
      exact (Option.some.inj hv).symm
    refine ⟨_, rfl, wpAny_letOwnedTupleGo_enum (s := { z with heap := h1, toks := tk + 1 }) out fun h2 back same2 => ?_⟩
    have at2 : ∀ b o, b ∉ [r, q] → z.heap.get? b = some o → h2.get? b = some o := fun b o away e =>
      (same2.2 b fun k => away (k ▸ List.mem_cons_self)).trans (kept1 b o (fun k => away (k ▸ List.mem_cons_self)) (fun k => away (k ▸ List.mem_cons_of_mem _ List.mem_cons_self)) e)
    have pair : ObjOk X.prog X.w (upd H z.heap.objs.size (.tup [.int (i : Nat), y])) h2 z.heap.objs.size (.tup [.int (i : Nat), y]) :=
      ⟨show 2 ≤ sizeLine by decide, [.int i tk, v'], .cons ⟨tk, rfl⟩ (.cons relV .nil), _, (same2.2 _ (Nat.ne_of_gt lr)).trans newT, rfl, _, rfl⟩
    refine ⟨.ref z.heap.objs.size, _, I.turnedNew (t' := tk + 1) at2 room (Nat.le_refl _) pair, rfl, ⟨_, y, rfl, I.hok.fresh (Nat.le_refl _), rfl, fun ys' is' => ?_⟩, ⟨ne, ?_, v', ?_⟩, fun b hb => ?_⟩
    · rw [I.tuple_inj is' isY]; exact nth
    · exact stQ.1.at fun o e => (same2.2 q ne.symm).trans e
    · rw [show ((i + 1 : Nat) : Int) = (i : Int) + 1 from by omega]; exact back
    · have lb : b < z.heap.objs.size := two_of (p := fun b => b < z.heap.objs.size) lr lq hb
      rw [upd_ne (Nat.ne_of_lt lb)]
      exact (room b hb).1
  · rintro X rfl rfl rfl calm i pins z σ H E I room ⟨ne, gq, old, gr⟩ ⟨ys, isY, past⟩
    obtain ⟨vs, rel, isT, _⟩ := I.tuple isY
    have isT : z.heap.IsTuple t vs.toArray := isT
    obtain ⟨k0, k1, k2, k3, k4, k5⟩ := room q (List.mem_cons_of_mem _ List.mem_cons_self)
    have isE : z.TypeIs (.ref r) "enumerate" := ⟨_, gr, rfl⟩
    have len := rel.length
    have past : vs.toArray[i]? = none := by rw [List.getElem?_toArray, List.getElem?_eq_none_iff]; omega
    unfold pyNext
    refine wpAny_bind (wpAny_attempt (wpAny_callSpecial?_slot (name := Str.ofString "__next__") isE F.slot_enumerate_next (wpAny_call_entry F.slot_enumerate_next isE F.entry_enumerate_next ?_ (F.args_enumerate_next_1 _))))
    show wpAny _ _ (field (.ref r) 2 >>= _) _ _ z
    refine wpAny_bind (wpAny_field gr rfl (x := .ref q) rfl (wpAny_bind (wpAny_nextOf_tuple_end (I.ok.hd calm) gq isT past fun h1 x but ⟨ox, gx, cx⟩ => ?_)))
    exact wpAny_bind (wpAny_isInstance (T := "StopIteration") (b := true) ⟨ox, gx, cx⟩ isSubtype_stop (wpAny_pure ⟨rfl, I.turned (t' := z.toks) (fun b o away e => but b o away e) k0 k1 k3 k4 k5⟩))
  · obtain ⟨_, _, old, gr⟩ := st
    exact wpAny_pyIter_enum gr more
/-- the reading of enumerate over a list or over a tuple -/
def iEnumS (K : PySem.W.Frag) (ta : TA) : TI := fun σ H R => ta σ H fun vs H1 => ∃ a xs, vs = [.ref a] ∧ ((SqL K H1 a xs ∧ R (Ite K a) H1) ∨ (SqT K H1 a xs ∧ R (IteT K a) H1))
theorem pi_enumS {X : Cx} {e : Expr} {ta : TA} {p pos tpos : Pos} {elts : List Expr} {kk : Nat} (hg : Gl X "enumerate") (hm : X.mg "enumerate" = none) (ha : PA X [e] ta) (hs : starEach [e] X.env = [(false, eval e X.env)] := by rfl) :
    PI X (.Tuple elts kk tpos) (.Call (.Name "enumerate" p) [e] [] pos) (iEnumS X.K ta) := by
  refine PI.mk fun pins z σ H R I reading => Call_ (ld_blt I hg hm boot_enumerate (PyProof.Rows.callWith_type1 (thn (ha.run pos pins z σ H _ I reading) fun us z1 hu => ?_) hs rfl))
  obtain ⟨vs, H1, I1, rel, a, xs, rfl, cases2⟩ := hu
  match us, rel with
  | [u], .cons ru .nil =>
    obtain rfl : u = Value.ref a := ru
    have fresh : ∀ b ∈ [z1.heap.objs.size + 1, z1.heap.objs.size], FpOk X pins H1 b := fun b hb =>
      have far : z1.heap.objs.size ≤ b := two_of (p := fun b => z1.heap.objs.size ≤ b) (Nat.le_succ _) (Nat.le_refl _) hb
      I1.fpOk far (I1.hok.fresh far)
    rcases cases2 with ⟨sq, q⟩ | ⟨sq, q⟩
    · obtain ⟨its, rv, isL, _⟩ := I1.list sq
      exact call_enumerate_list isL.isList fun h' gE gI _ kept => wpAny_pyIter_enum gE ⟨_, _, _, _, H1, rfl, I1.kept (t' := z1.toks) kept, turn_enum a _ _, ⟨⟨.none, gE⟩, gI, Nat.succ_ne_self _⟩, fresh, q⟩
    · obtain ⟨its, rv, isT, _⟩ := I1.tuple sq
      have isT : z1.heap.IsTuple a its.toArray := isT
      refine enum_of_tuple isT fun gE => wpAny_pyIter_enum gE ⟨_, _, _, _, H1, rfl, I1.kept (t' := z1.toks) fun b o e => ?_, turn_enumT a _ _, ⟨Nat.succ_ne_self _, ?_, .none, gE⟩, fresh, q⟩
      · exact Heap.get?_push_of_some _ (Heap.get?_push_of_some _ e)
      · exact ⟨_, Heap.get?_push_of_some _ (Heap.get?_push_size _ rfl), rfl, rfl⟩
end L2.TB
namespace L2.TB
open PySem PySem.Spec PyProof.Rows
/-! the program's looks at what it is passed -/
theorem boot_int' : bootBuiltins "int" = some (.type "int") := by decide +kernel
theorem boot_bool' : bootBuiltins "bool" = some (.type "bool") := by decide +kernel
theorem boot_str' : bootBuiltins "str" = some (.type "str") := by decide +kernel
theorem boot_list' : bootBuiltins "list" = some (.type "list") := by decide +kernel
theorem boot_tuple' : bootBuiltins "tuple" = some (.type "tuple") := by decide +kernel
theorem boot_dict' : bootBuiltins "dict" = some (.type "dict") := by decide +kernel
theorem boot_isi : bootBuiltins "isinstance" = some (.builtin "isinstance") := by decide +kernel
/-- the list or the tuple at a -/
def SqA (K : PySem.W.Frag) (H : Hp) (a : Addr) (xs : List V) : Prop := H a = some (.lst xs) ∨ H a = some (.tup xs)
theorem SqA.seq {K : PySem.W.Frag} {H : Hp} {a : Addr} {xs : List V} (h : SqA K H a xs) : SqL K H a xs ∨ SqT K H a xs := h.imp SqL.of SqT.of
theorem SqA.same {K : PySem.W.Frag} {H H' : Hp} {a : Addr} {xs : List V} (h : SqA K H a xs) (s : Same H H') : SqA K H' a xs := h.imp (s _ _) (s _ _)
theorem kit_two_l {K : PySem.W.Frag} : PySem.W.kitAny K (.type "list") [.type "list", .type "tuple"] = some true := by
  unfold PySem.W.kitAny
  rw [kit_ty (K := K) (a := "list") (b := "list") (r := true) (by decide +kernel)]
theorem kit_two_t {K : PySem.W.Frag} : PySem.W.kitAny K (.type "tuple") [.type "list", .type "tuple"] = some true := by
  unfold PySem.W.kitAny
  rw [kit_ty (K := K) (a := "tuple") (b := "list") (r := false) (by decide +kernel)]
  dsimp only
  unfold PySem.W.kitAny
  rw [kit_ty (K := K) (a := "tuple") (b := "tuple") (r := true) (by decide +kernel)]
def spIsInt : Sp := fun vs H Q _ => ∃ k : Int, vs = [.int k] ∧ Q (.bl true) H
def spIsList (K : PySem.W.Frag) : Sp := fun vs H Q _ => ∃ (a : Addr) (xs : List V), vs = [.ref a] ∧ SqA K H a xs ∧ ∀ H', Same H H' → Q (.bl true) H'
def spIsOne (K : PySem.W.Frag) : Sp := fun vs H Q _ => ∃ (c : Addr) (ns : List Str) (x : Str), vs = [.ref c, .str x] ∧ SqL K H c (ns.map V.str) ∧ Q (.bl (decide (x ∈ ns))) H
/-- no bad one -/
def spFirst (K : PySem.W.Frag) : Sp := fun vs H Q _ => ∃ (c a : Addr) (ns known : List Str), vs = [.ref c, .ref a] ∧ H c = some (.lst (ns.map V.str)) ∧ SqA K H a (known.map V.str) ∧ known.Nodup ∧ (∀ x ∈ known, x ∈ ns) ∧ known.length < 1000 ∧ ∀ H', Same H H' → Q .non H'
theorem scIsInt : FnScope ["thing"] ["thing"] (defScope sIsInt) := ⟨rfl, rfl, rfl, by decide +kernel, rfl, by decide +kernel, by decide +kernel⟩
theorem scIsList : FnScope ["thing"] ["thing"] (defScope sIsList) := ⟨rfl, rfl, rfl, by decide +kernel, rfl, by decide +kernel, by decide +kernel⟩
theorem scIsOne : FnScope ["names", "thing"] ["names", "thing"] (defScope sIsOne) := ⟨rfl, rfl, rfl, by decide +kernel, rfl, by decide +kernel, by decide +kernel⟩
abbrev NF : List Str := ["names", "things", "seen", "index", "thing"]
theorem scFirst : FnScope NF ["names", "things"] (defScope sFirst) := ⟨rfl, rfl, rfl, by decide +kernel, rfl, by decide +kernel, by decide +kernel⟩
section
variable {P : Program} {w : World} {K : PySem.W.Frag} {mg : Str → Option Value} {base : Heap} {f fL fO : Addr} {fd fdL fdO : FuncData}
theorem ok_isInt (F : Fun K "is_integer" "is_integer" sIsInt f fd) (gI : mg "isinstance" = none) (gInt : mg "int" = none) (gB : mg "bool" = none) : FnOk P w K mg base CX0 1 f fd ["thing"] spIsInt := by
  refine F.ok scIsInt (fun vs H Q E h => by obtain ⟨k, e, _⟩ := h; rw [e]; rfl) fun cdv A outer s H vs Q E hr hsp => ?_
  obtain ⟨k, rfl, hq⟩ := hsp
  refine ⟨_, pss_one (ps_ret (pe_and (pe_callB (r := rIsi K) call_isi rfl gI boot_isi (pa_cons (pv 0) (pa_cons (pe_bltn (v := .ty "int") rfl gInt boot_int' rfl) pa_nil)))
    (pe_one (pe_not (pe_callB (r := rIsi K) call_isi rfl gI boot_isi (pa_cons (pv 0) (pa_cons (pe_bltn (v := .ty "bool") rfl gB boot_bool' rfl) pa_nil))))))), ?_⟩
  exact ⟨_, rfl, _, _, _, _, true, rfl, .ty _, .base (.int k), kit_ty (by decide +kernel), true, rfl, _, rfl, _, _, _, _, false, rfl, .ty _, .base (.int k), kit_ty (by decide +kernel), false, rfl, hq⟩
theorem ok_isList (F : Fun K "is_list" "is_list" sIsList f fd) (gI : mg "isinstance" = none) (gL : mg "list" = none) (gT : mg "tuple" = none) : FnOk P w K mg base CX0 1 f fd ["thing"] (spIsList K) := by
  refine F.ok scIsList (fun vs H Q E h => by obtain ⟨a, xs, e, _⟩ := h; rw [e]; rfl) fun cdv A outer s H vs Q E hr hsp => ?_
  obtain ⟨a, xs, rfl, hS, hq⟩ := hsp
  refine ⟨_, pss_one (ps_ret (pe_callB (r := rIsiT K) call_isiT rfl gI boot_isi (pa_cons (pv 0) (pa_cons (pe_tup (pa_cons (pe_bltn (v := .ty "list") rfl gL boot_list' rfl) (pa_cons (pe_bltn (v := .ty "tuple") rfl gT boot_tuple' rfl) pa_nil))) pa_nil)))), ?_⟩
  refine ⟨_, rfl, (by show 2 ≤ sizeLine; decide), fun t nt => ?_⟩
  have kt := same_new (o := .tup [.ty "list", .ty "tuple"]) nt
  rcases hS.same kt with e | e
  · exact ⟨_, _, _, _, _, true, rfl, upd_same, .cons (.ty _) (.cons (.ty _) .nil), .base (.lst e), kit_two_l, hq _ kt⟩
  · exact ⟨_, _, _, _, _, true, rfl, upd_same, .cons (.ty _) (.cons (.ty _) .nil), .base (.tup e), kit_two_t, hq _ kt⟩
theorem ok_isOne (F : Fun K "is_one_of" "is_one_of" sIsOne f fd) (gI : mg "isinstance" = none) (gS : mg "str" = none) : FnOk P w K mg base CX0 1 f fd ["names", "thing"] (spIsOne K) := by
  refine F.ok scIsOne (fun vs H Q E h => by obtain ⟨c, ns, x, e, _⟩ := h; rw [e]; rfl) fun cdv A outer s H vs Q E hr hsp => ?_
  obtain ⟨c, ns, x, rfl, hS, hq⟩ := hsp
  refine ⟨_, pss_one (ps_ret (pe_and (pe_callB (r := rIsi K) call_isi rfl gI boot_isi (pa_cons (pv 1) (pa_cons (pe_bltn (v := .ty "str") rfl gS boot_str' rfl) pa_nil)))
    (pe_one (pe_cmpR op_in_seq (pv 1) (pv 0) rfl)))), ?_⟩
  refine ⟨_, rfl, _, _, _, _, true, rfl, .ty _, .base (.str x), kit_ty (by decide +kernel), true, rfl, _, rfl, _, rfl, c, _, rfl, .inl hS, rfl, flat_strs ns, ?_⟩
  rw [inV_strs]
  exact hq
/-- the dict of what was seen -/
def seenD (xs : List Str) : List (Key × V) := xs.map fun x => (Sum.inr x, V.bl true)
theorem seen_none {xs : List Str} {x : Str} (h : x ∉ xs) : valV (seenD xs) (Sum.inr x) = none := by
  cases e : valV (seenD xs) (Sum.inr x) with
  | none => rfl
  | some v =>
    exfalso
    have z : (valV (seenD xs) (Sum.inr x)).isSome = true := by rw [e]; rfl
    rw [← valV_any, List.any_eq_true] at z
    obtain ⟨q, hq, hq2⟩ := z
    obtain ⟨y, hy, rfl⟩ := List.mem_map.mp hq
    have hq3 : (Sum.inr y : Key) = Sum.inr x := of_decide_eq_true hq2
    exact h (Sum.inr.inj hq3 ▸ hy)
theorem seen_put {xs : List Str} {x : Str} (h : x ∉ xs) : putK (seenD xs) (Sum.inr x) (.bl true) = seenD (xs ++ [x]) := by
  rw [putK_new (.bl true) (seen_none h)]
  simp [seenD]
/-- what the for loop asks of its turns -/
def ForW (J : It) (g : TG) (tb : TS) (D : Ends) (σ : St) (H : Hp) : Prop := ∃ W : Nat → Nat → St → Hp → Prop, (∃ m, W 0 m σ H) ∧ ∀ i m σ H, W i m σ H →
  (J.stop i H ∧ D.nx σ H) ∨ (J.go i H ∧ ∃ N : St → Hp → Prop, (∀ σ' H', N σ' H' → ∃ m', m' < m ∧ W (i + 1) m' σ' H') ∧ ∀ x H', J.yld i H x H' → g x σ H' fun σ2 H2 => tb { D with nx := N, ct := N, bk := D.nx } σ2 H2)
theorem enum_seq {K : PySem.W.Frag} {a : Addr} {xs : List V} {o : HO} {g : TG} {tb : TS} {D : Ends} {σ : St} {H : Hp} (ko : o = .lst xs ∨ o = .tup xs) (Pv : Nat → St → Hp → Prop) (h0 : Pv 0 σ H) (hl : ∀ i σ H, i ≤ xs.length → Pv i σ H → H a = some o)
    (hs : ∀ i x σ H T, xs[i]? = some x → Pv i σ H → H T = none → g (.ref T) σ (upd H T (.tup [.int (i : Nat), x])) fun σ2 H2 => tb { D with nx := Pv (i + 1), ct := Pv (i + 1), bk := D.nx } σ2 H2) (hd : ∀ σ H, Pv xs.length σ H → D.nx σ H) :
    ∃ b ys, [V.ref a] = [V.ref b] ∧ ((SqL K H b ys ∧ ForW (Ite K b) g tb D σ H) ∨ (SqT K H b ys ∧ ForW (IteT K b) g tb D σ H)) := by
  have fin : ∀ J : It, (∀ i H, i < xs.length → H a = some o → J.go i H) → (∀ i H, i = xs.length → H a = some o → J.stop i H) → (∀ i H v H', i < xs.length → H a = some o → J.yld i H v H' → ∃ T x, v = .ref T ∧ H T = none ∧ H' = upd H T (.tup [.int (i : Nat), x]) ∧ xs[i]? = some x) → ForW J g tb D σ H := by
    intro J go stop yld
    refine ⟨fun i m σ H => m = xs.length - i ∧ i ≤ xs.length ∧ Pv i σ H, ⟨_, rfl, Nat.zero_le _, h0⟩, ?_⟩
    rintro i m σ H ⟨rfl, le, p⟩
    have q := hl i σ H le p
    by_cases lt : i < xs.length
    · refine .inr ⟨go i H lt q, Pv (i + 1), fun σ' H' p' => ⟨xs.length - (i + 1), by omega, rfl, lt, p'⟩, fun v H' y => ?_⟩
      obtain ⟨T, x, rfl, nT, rfl, ex⟩ := yld i H v H' lt q y
      exact hs i x σ H T ex p nT
    · obtain rfl : i = xs.length := by omega
      exact .inl ⟨stop _ H rfl q, hd σ H p⟩
  have q0 := hl 0 σ H (Nat.zero_le _) h0
  rcases ko with rfl | rfl
  · exact ⟨a, xs, rfl, .inl ⟨SqL.of q0, fin _ (fun i H lt q => ⟨xs, xs[i], SqL.of q, by simp [lt]⟩) (fun i H e' q => ⟨xs, SqL.of q, by omega⟩)
      (fun i H v H' lt q ⟨T, x, e1, e2, e3, e4⟩ => ⟨T, x, e1, e2, e3, e4 xs (SqL.of q)⟩)⟩⟩
  · exact ⟨a, xs, rfl, .inr ⟨SqT.of q0, fin _ (fun i H lt q => ⟨xs, xs[i], SqT.of q, by simp [lt]⟩) (fun i H e' q => ⟨xs, SqT.of q, by omega⟩)
      (fun i H v H' lt q ⟨T, x, e1, e2, e3, e4⟩ => ⟨T, x, e1, e2, e3, e4 xs (SqT.of q)⟩)⟩⟩
theorem ok_first (F : Fun K "first_bad" "first_bad" sFirst f fd) (FL : Fun K "is_list" "is_list" sIsList fL fdL) (gIL : mg "is_list" = some (.ref fL)) (FO : Fun K "is_one_of" "is_one_of" sIsOne fO fdO) (gIO : mg "is_one_of" = some (.ref fO))
    (gI : mg "isinstance" = none) (gL : mg "list" = none) (gT : mg "tuple" = none) (gS : mg "str" = none) (gE : mg "enumerate" = none) : FnOk P w K mg base CX0 2 f fd ["names", "things"] (spFirst K) := by
  have GL : FnOk P w K mg base CX0 1 fL fdL ["thing"] (spIsList K) := ok_isList FL gI gL gT
  have bL := FL.binds (ps := ["thing"]) fun _ _ _ _ _ _ us hl => match us, hl with | [_], _ => rfl
  have GO : FnOk P w K mg base CX0 1 fO fdO ["names", "thing"] (spIsOne K) := ok_isOne FO gI gS
  have bO := FO.binds (ps := ["names", "thing"]) fun _ _ _ _ _ _ us hl => match us, hl with | [_, _], _ => rfl
  refine F.ok scFirst (fun vs H Q E h => by obtain ⟨c, a, ns, known, e, _⟩ := h; rw [e]; rfl) fun cdv A outer s H vs Q E hr hsp => ?_
  obtain ⟨c, a, ns, known, rfl, hc, hS, nd1, sub, short, hq⟩ := hsp
  have nd := scFirst.nd
  have hu := hu_of hr
  refine ⟨_, pss_cons (ps_if (pt_not (pt_val (pe_call GL hr rfl gIL FL.kp bL .nil pass0 (pa_cons (pv 1) pa_nil)))) (pss_one ps_never) pss_nil)
    (pss_cons (ps_set (i := 2) nd rfl (Or.inl rfl) pe_dnewK)
    (pss_cons (ps_for PassesOwn.never rfl (pi_enumS rfl gE (pa_cons (pv 1) pa_nil)) (pg_tup rfl (pgs_cons (pg_name (i := 3) nd rfl (Or.inl rfl)) (pgs_cons (pg_name (i := 4) nd rfl (Or.inl rfl)) pgs_nil)))
      (pss_cons (ps_if (PW.pt (pw_or (pt_not (pt_val (pe_call GO hr rfl gIO FO.kp bO .nil pass0 (pa_cons (pv 0) (pa_cons (pv 4) pa_nil))))) (pw_or1 (pt_cmp (pc_din hu (pv 4) (pv 2)))))) (pss_one ps_never) pss_nil)
      (pss_one (ps_dput hu (pv 2) (pv 4) pe_bl rfl))))
    (pss_one (ps_ret pe_non)))), ?_⟩
  refine ⟨_, rfl, a, _, rfl, hS, fun H1 k1 => ⟨_, rfl, iteF fun d nd2 => ?_⟩⟩
  have kd := same_new (o := .dK []) nd2
  obtain ⟨o, ho, ko⟩ : ∃ o, H1 a = some o ∧ (o = .lst (known.map V.str) ∨ o = .tup (known.map V.str)) := by
    rcases hS.same k1 with e | e
    · exact ⟨_, e, .inl rfl⟩
    · exact ⟨_, e, .inr rfl⟩
  refine ⟨_, rfl, enum_seq ko (fun i σ H' => H' d = some (.dK (seenD (known.take i))) ∧ Same H1 H' ∧ ∃ s3 s4, σ = [some (.ref c), some (.ref a), some (.ref d), s3, s4])
    ⟨upd_same, kd, _, _, rfl⟩ (fun i σ H' _ h => h.2.1 _ _ ho) ?_ ?_⟩
  · rintro i v σ H2 T ev ⟨od, s2, s3, s4, rfl⟩ nT
    rw [List.getElem?_map] at ev
    obtain ⟨x, ex, rfl⟩ := Option.map_eq_some_iff.mp ev
    have hi : i < known.length := (List.getElem?_eq_some_iff.mp ex).1
    have kT := same_new (o := .tup [.int (i : Nat), .str x]) nT
    refine ⟨T, _, rfl, SqT.of upd_same, rfl, ?_⟩
    have e1 : known.take (i + 1) = known.take i ++ [x] := by rw [List.take_succ, ex]; rfl
    have notin : x ∉ known.take i := fun m => by
      have z := nd1
      rw [← List.take_append_drop (i + 1) known, e1, List.append_assoc, List.nodup_append] at z
      exact z.2.2 x m x (by simp) rfl
    have xin : x ∈ ns := sub x (List.mem_of_getElem? ex)
    refine ⟨_, _, rfl, _, _, rfl, rfl, ?_⟩
    refine ⟨_, rfl, _, rfl, c, ns, x, rfl, SqL.of (kT _ _ (s2 _ _ (k1 _ _ hc))), _, rfl, ?_⟩
    rw [decide_eq_true xin]
    refine iteF ⟨_, rfl, _, rfl, d, _, rfl, DGet.k (k := Sum.inr x) (kT _ _ od), ?_⟩
    rw [seen_none notin]
    refine ⟨_, rfl, iteF ?_⟩
    have small : (seenD (known.take i)).length < sizeLine := by
      rw [sizeLine_eq]
      unfold seenD
      rw [List.length_map, List.length_take]; omega
    refine ⟨_, rfl, _, rfl, d, _, rfl, DPut.k (k := Sum.inr x) (kT _ _ od) small, ?_, ?_, _, _, rfl⟩
    · rw [upd_same, seen_put notin, ← e1]
    · intro b u e
      have nb : b ≠ d := ne_of_none e nd2
      rw [upd_ne nb]
      exact kT _ _ (s2 _ _ e)
  · rintro σ H2 ⟨od, s2, s3, s4, rfl⟩
    exact hq _ (k1.trans s2)
end
end L2.TB
namespace L2.TB
open PySem PySem.Spec PyProof.Rows
/-! the checks, where nothing is wrong -/
def spCkA (K : PySem.W.Frag) : Sp := fun vs H Q _ => ∃ (c : Addr) (ns : List Str) (x : Str), vs = [.ref c, .str x] ∧ SqL K H c (ns.map V.str) ∧ x ∈ ns ∧ Q .non H
def spCkB (K : PySem.W.Frag) : Sp := fun vs H Q _ => ∃ (c a : Addr) (ns known : List Str) (x : Str), vs = [.ref c, .ref a, .str x] ∧ H c = some (.lst (ns.map V.str)) ∧ SqA K H a (known.map V.str) ∧ known.Nodup ∧ (∀ x ∈ known, x ∈ ns) ∧ known.length < 1000 ∧ x ∈ ns ∧ ∀ H', Same H H' → Q .non H'
theorem scCkK : FnScope ["names", "known", "index"] ["names", "known"] (defScope sCkK) := ⟨rfl, rfl, rfl, by decide +kernel, rfl, by decide +kernel, by decide +kernel⟩
theorem scCkA : FnScope ["names", "asked"] ["names", "asked"] (defScope sCkA) := ⟨rfl, rfl, rfl, by decide +kernel, rfl, by decide +kernel, by decide +kernel⟩
theorem scCkB : FnScope ["names", "known", "asked"] ["names", "known", "asked"] (defScope sCkB) := ⟨rfl, rfl, rfl, by decide +kernel, rfl, by decide +kernel, by decide +kernel⟩
/-- what the checks need of the module -/
structure Chk (K : PySem.W.Frag) (mg : Str → Option Value) (aF aL aO aK aA aB : Addr) : Prop where
  F : ∃ fd, Fun K "first_bad" "first_bad" sFirst aF fd
  L : ∃ fd, Fun K "is_list" "is_list" sIsList aL fd
  O : ∃ fd, Fun K "is_one_of" "is_one_of" sIsOne aO fd
  CK : ∃ fd, Fun K "check_known" "check_known" sCkK aK fd
  CA : ∃ fd, Fun K "check_asked" "check_asked" sCkA aA fd
  CB : ∃ fd, Fun K "check_both" "check_both" sCkB aB fd
  gF : mg "first_bad" = some (.ref aF)
  gL : mg "is_list" = some (.ref aL)
  gO : mg "is_one_of" = some (.ref aO)
  gCK : mg "check_known" = some (.ref aK)
  gCA : mg "check_asked" = some (.ref aA)
  gCB : mg "check_both" = some (.ref aB)
  nI : mg "isinstance" = none
  nL : mg "list" = none
  nT : mg "tuple" = none
  nS : mg "str" = none
  nE : mg "enumerate" = none
section
variable {P : Program} {w : World} {K : PySem.W.Frag} {mg : Str → Option Value} {base : Heap} {aF aL aO aK aA aB : Addr} {fd : FuncData}
theorem ok_ckK (C : Chk K mg aF aL aO aK aA aB) (F : Fun K "check_known" "check_known" sCkK aK fd) : FnOk P w K mg base CX0 3 aK fd ["names", "known"] (spFirst K) := by
  obtain ⟨fdF, FF⟩ := C.F
  obtain ⟨fdL, FL⟩ := C.L
  obtain ⟨fdO, FO⟩ := C.O
  have G : FnOk P w K mg base CX0 2 aF fdF ["names", "things"] (spFirst K) := ok_first FF FL C.gL FO C.gO C.nI C.nL C.nT C.nS C.nE
  have b := FF.binds (ps := ["names", "things"]) fun _ _ _ _ _ _ us hl => match us, hl with | [_, _], _ => rfl
  refine F.ok scCkK (fun vs H Q E h => by obtain ⟨c, a, ns, known, e, _⟩ := h; rw [e]; rfl) fun cdv A outer s H vs Q E hr hsp => ?_
  obtain ⟨c, a, ns, known, rfl, hc, hS, nd1, sub, short, hq⟩ := hsp
  have nd := scCkK.nd
  refine ⟨_, pss_cons (ps_set (i := 2) nd rfl (Or.inl rfl) (pe_call G hr rfl C.gF FF.kp b .nil pass0 (pa_cons (pv 0) (pa_cons (pv 1) pa_nil))))
    (pss_one (ps_if (pt_cmp (pc_notN (pv 2))) (pss_one ps_never) pss_nil)), ?_⟩
  refine ⟨_, rfl, _, rfl, c, a, ns, known, rfl, hc, hS, nd1, sub, short, fun H1 k1 => ?_⟩
  exact ⟨_, rfl, _, rfl, iteF (hq H1 k1)⟩
theorem ok_ckA (C : Chk K mg aF aL aO aK aA aB) (F : Fun K "check_asked" "check_asked" sCkA aA fd) : FnOk P w K mg base CX0 2 aA fd ["names", "asked"] (spCkA K) := by
  obtain ⟨fdO, FO⟩ := C.O
  have G : FnOk P w K mg base CX0 1 aO fdO ["names", "thing"] (spIsOne K) := ok_isOne FO C.nI C.nS
  have b := FO.binds (ps := ["names", "thing"]) fun _ _ _ _ _ _ us hl => match us, hl with | [_, _], _ => rfl
  refine F.ok scCkA (fun vs H Q E h => by obtain ⟨c, ns, x, e, _⟩ := h; rw [e]; rfl) fun cdv A outer s H vs Q E hr hsp => ?_
  obtain ⟨c, ns, x, rfl, hc, xin, hq⟩ := hsp
  refine ⟨_, pss_one (ps_if (pt_not (pt_val (pe_call G hr rfl C.gO FO.kp b .nil pass0 (pa_cons (pv 0) (pa_cons (pv 1) pa_nil))))) (pss_one ps_never) pss_nil), ?_⟩
  refine ⟨_, rfl, _, rfl, c, ns, x, rfl, hc, _, rfl, ?_⟩
  rw [decide_eq_true xin]
  exact iteF hq
theorem ok_ckB (C : Chk K mg aF aL aO aK aA aB) (F : Fun K "check_both" "check_both" sCkB aB fd) : FnOk P w K mg base CX0 4 aB fd ["names", "known", "asked"] (spCkB K) := by
  obtain ⟨fdK, FK⟩ := C.CK
  obtain ⟨fdA, FA⟩ := C.CA
  have GK := ok_ckK (P := P) (w := w) (base := base) C FK
  have bK := FK.binds (ps := ["names", "known"]) fun _ _ _ _ _ _ us hl => match us, hl with | [_, _], _ => rfl
  have GA := ok_ckA (P := P) (w := w) (base := base) C FA
  have bA := FA.binds (ps := ["names", "asked"]) fun _ _ _ _ _ _ us hl => match us, hl with | [_, _], _ => rfl
  refine F.ok scCkB (fun vs H Q E h => by obtain ⟨c, a, ns, known, x, e, _⟩ := h; rw [e]; rfl) fun cdv A outer s H vs Q E hr hsp => ?_
  obtain ⟨c, a, ns, known, x, rfl, hc, hS, nd1, sub, short, xin, hq⟩ := hsp
  refine ⟨_, pss_cons (ps_expr (pe_call GK hr rfl C.gCK FK.kp bK .nil pass0 (pa_cons (pv 0) (pa_cons (pv 1) pa_nil))))
    (pss_one (ps_expr (pe_call GA (hr.mono (by decide)) rfl C.gCA FA.kp bA .nil pass0 (pa_cons (pv 0) (pa_cons (pv 2) pa_nil))))), ?_⟩
  refine ⟨_, rfl, _, rfl, c, a, ns, known, rfl, hc, hS, nd1, sub, short, fun H1 k1 => ?_⟩
  exact ⟨_, rfl, _, rfl, c, ns, x, rfl, SqL.of (k1 _ _ hc), xin, hq H1 k1⟩
end
end L2.TB
namespace L2.TB
open PySem PySem.Spec PyProof.Rows
/-! what is walked is a list or a tuple -/
def iSeq (K : PySem.W.Frag) (tl : TE) : TI := fun σ H R => tl σ H fun x H1 => ∃ a xs, x = .ref a ∧ ((SqL K H1 a xs ∧ R (Itl K a) H1) ∨ (SqT K H1 a xs ∧ R (Itt K a) H1))
theorem pi_seq {X : Cx} {tg l : Expr} {tl : TE} (hl : PE X l tl) : PI X tg l (iSeq X.K tl) := by
  refine PI.mk fun pins z σ H R I reading => thn (hl.run pins z σ H _ I reading) fun v z1 ⟨x, H1, I1, rel, a, xs, ex, both⟩ => ?_
  subst ex
  obtain rfl : v = Value.ref a := rel
  have one : ∀ (o : Obj), FpOk X pins H1 z1.heap.objs.size := fun _ => I1.fpOk (Nat.le_refl _) (I1.hok.fresh (Nat.le_refl _))
  have fresh : ∀ b ∈ [z1.heap.objs.size], FpOk X pins H1 b := fun b hb => by
    obtain rfl := List.mem_singleton.mp hb
    exact I1.fpOk (Nat.le_refl _) (I1.hok.fresh (Nat.le_refl _))
  rcases both with ⟨sq, q⟩ | ⟨sq, q⟩
  · obtain ⟨its, rv, isL, _⟩ := I1.list sq
    exact wpAny_pyIter_list isL.isList ⟨_, _, _, _, H1, rfl, I1.kept (t' := z1.toks) (fun b o e => Heap.get?_push_of_some _ e), turn_list a _, ⟨_, Heap.get?_push_size _ rfl, rfl, rfl⟩, fresh, q⟩
  · obtain ⟨its, rv, isT, _⟩ := I1.tuple sq
    exact wpAny_pyIter_tuple (show z1.heap.IsTuple a its.toArray from isT) ⟨_, _, _, _, H1, rfl, I1.kept (t' := z1.toks) (fun b o e => Heap.get?_push_of_some _ e), turn_tuple a _, ⟨_, Heap.get?_push_size _ rfl, rfl, rfl⟩, fresh, q⟩
/-- a for loop over it -/
theorem for_seq {K : PySem.W.Frag} {a : Addr} {xs : List V} {o : HO} {g : TG} {tb : TS} {D : Ends} {σ : St} {H : Hp} (ko : o = .lst xs ∨ o = .tup xs) (Pv : Nat → St → Hp → Prop) (h0 : Pv 0 σ H) (hl : ∀ i σ H, i ≤ xs.length → Pv i σ H → H a = some o)
    (hs : ∀ i x σ H, xs[i]? = some x → Pv i σ H → g x σ H fun σ2 H2 => tb { D with nx := Pv (i + 1), ct := Pv (i + 1), bk := D.nx } σ2 H2) (hd : ∀ σ H, Pv xs.length σ H → D.nx σ H) :
    ∃ b ys, V.ref a = V.ref b ∧ ((SqL K H b ys ∧ ForW (Itl K b) g tb D σ H) ∨ (SqT K H b ys ∧ ForW (Itt K b) g tb D σ H)) := by
  have q0 := hl 0 σ H (Nat.zero_le _) h0
  rcases ko with rfl | rfl
  · exact ⟨a, xs, rfl, .inl ⟨SqL.of q0, for_list Pv h0 (fun i σ H le p => SqL.of (hl i σ H le p)) hs hd⟩⟩
  · exact ⟨a, xs, rfl, .inr ⟨SqT.of q0, for_tup Pv h0 (fun i σ H le p => SqT.of (hl i σ H le p)) hs hd⟩⟩
/-- what a list comprehension asks of its turns -/
def LcW (J : It) (g : TG) (tt : TT) (te : TE) (vs : List Nat) (σ : St) (H1 : Hp) (Q : Addr → Hp → Prop) : Prop := ∀ D, H1 D = none → ∃ W : Nat → Nat → Hp → Prop, (∃ m, W 0 m (upd H1 D (.lst []))) ∧ ∀ i m H, W i m H →
  (J.stop i H ∧ Q D H) ∨ (J.go i H ∧ ∃ Nx : Hp → Prop, (∀ H', Nx H' → ∃ m', m' < m ∧ W (i + 1) m' H') ∧ ∀ x H', J.yld i H x H' → g x (wipe σ vs) H' fun σ2 H2 => wipe σ2 vs = wipe σ vs ∧ tt σ2 H2 fun b H3 =>
    if b = true then te σ2 H3 fun y H4 => ∃ acc, H4 D = some (.lst acc) ∧ acc.length < sizeLine ∧ Nx (upd H4 D (.lst (acc ++ [y]))) else Nx H3)
/-- a turn of a comprehension: keep tells whether x is kept, fv x is what is made of it; nothing that was there is changed -/
def LcTurn (g : TG) (tt : TT) (te : TE) (vs : List Nat) (σ : St) (xs : List V) (keep : V → Bool) (fv : V → V) (H1 : Hp) : Prop :=
  ∀ (i : Nat) (x : V) (H : Hp) (C : V → Hp → Prop) (N : Hp → Prop), xs[i]? = some x → Same H1 H → (keep x = true → ∀ H4, Same H H4 → C (fv x) H4) → (keep x = false → ∀ H4, Same H H4 → N H4) →
    g x (wipe σ vs) H fun σ2 H2 => wipe σ2 vs = wipe σ vs ∧ tt σ2 H2 fun b H3 => if b = true then te σ2 H3 C else N H3
theorem filter_snoc (keep : V → Bool) (fv : V → V) {xs : List V} {i : Nat} {x : V} (ex : xs[i]? = some x) :
    ((xs.take (i + 1)).filter keep).map fv = ((xs.take i).filter keep).map fv ++ (if keep x = true then [fv x] else []) := by
  have e1 : xs.take (i + 1) = xs.take i ++ [x] := by rw [List.take_succ, ex]; rfl
  rw [e1, List.filter_append, List.map_append]
  congr 1
  cases h : keep x <;> simp [h]
theorem lc_seq {K : PySem.W.Frag} {a : Addr} {xs : List V} {o : HO} {g : TG} {tt : TT} {te : TE} {vs : List Nat} {σ : St} {H1 : Hp} {Q : Addr → Hp → Prop} (ko : o = .lst xs ∨ o = .tup xs) (ho : H1 a = some o) (short : xs.length < 1000000) (keep : V → Bool) (fv : V → V)
    (turn : LcTurn g tt te vs σ xs keep fv H1) (fin : ∀ H D, H1 D = none → H D = some (.lst ((xs.filter keep).map fv)) → Same H1 H → Q D H) :
    ∃ b ys, V.ref a = V.ref b ∧ ((SqL K H1 b ys ∧ LcW (Itl K b) g tt te vs σ H1 Q) ∨ (SqT K H1 b ys ∧ LcW (Itt K b) g tt te vs σ H1 Q)) := by
  have go : ∀ D, H1 D = none → ∀ (i : Nat) (x : V) (H : Hp), xs[i]? = some x → (H D = some (.lst (((xs.take i).filter keep).map fv)) ∧ Same H1 H) → g x (wipe σ vs) H fun σ2 H2 => wipe σ2 vs = wipe σ vs ∧ tt σ2 H2 fun b H3 =>
      if b = true then te σ2 H3 fun y H4 => ∃ acc, H4 D = some (.lst acc) ∧ acc.length < sizeLine ∧ ((upd H4 D (.lst (acc ++ [y]))) D = some (.lst (((xs.take (i + 1)).filter keep).map fv)) ∧ Same H1 (upd H4 D (.lst (acc ++ [y])))) else (H3 D = some (.lst (((xs.take (i + 1)).filter keep).map fv)) ∧ Same H1 H3) := by
    rintro D nD i x H ex ⟨oD, s1⟩
    refine turn i x H _ _ ex s1 (fun k H4 s4 => ⟨_, s4 _ _ oD, ?_, ?_, ?_⟩) (fun k H4 s4 => ⟨?_, s1.trans s4⟩)
    · rw [sizeLine_eq, List.length_map]
      have := List.length_filter_le keep (xs.take i)
      rw [List.length_take] at this
      omega
    · rw [upd_same, filter_snoc keep fv ex, if_pos k]
    · intro b u e
      have nb : b ≠ D := ne_of_none e nD
      rw [upd_ne nb]
      exact s4 _ _ (s1 _ _ e)
    · rw [filter_snoc keep fv ex, k]
      simpa using s4 _ _ oD
  have all : xs.take xs.length = xs := List.take_length
  rcases ko with rfl | rfl
  · exact ⟨a, xs, rfl, .inl ⟨SqL.of ho, fun D nD => lc_list (xs := xs) (fun i H => H D = some (.lst (((xs.take i).filter keep).map fv)) ∧ Same H1 H) ⟨upd_same, same_new nD⟩ (fun i H _ p => SqL.of (p.2 _ _ ho)) (fun i x H ex p => go D nD i x H ex p)
      (fun H p => fin H D nD (by rw [all] at p; exact p.1) p.2)⟩⟩
  · exact ⟨a, xs, rfl, .inr ⟨SqT.of ho, fun D nD => lc_tup (xs := xs) (fun i H => H D = some (.lst (((xs.take i).filter keep).map fv)) ∧ Same H1 H) ⟨upd_same, same_new nD⟩ (fun i H _ p => SqT.of (p.2 _ _ ho)) (fun i x H ex p => go D nD i x H ex p)
      (fun H p => fin H D nD (by rw [all] at p; exact p.1) p.2)⟩⟩
end L2.TB
namespace L2.TB
open PySem PySem.Spec PyProof.Rows
/-! the table and its methods -/
def tabF (qa ra : Addr) : List (Str × V) := [("_questions", .ref qa), ("_rows", .ref ra)]
theorem tabF_q (qa ra : Addr) : (tabF qa ra).lookup ("_questions" : Str) = some (V.ref qa) := rfl
theorem tabF_r (qa ra : Addr) : (tabF qa ra).lookup ("_rows" : Str) = some (V.ref ra) := rfl
/-- the rows of the list at ra -/
def TRows (H : Hp) (ra : Addr) (n : Nat) (tbl : List (List Int)) : Prop := ∃ ps : List Addr, H ra = some (.lst (ps.map V.ref)) ∧ Paired (fun p vs => H p = some (.tup (vs.map V.int)) ∧ vs.length = n) ps tbl
structure TabAt (H : Hp) (C a : Addr) (ns : List Str) (tbl : List (List Int)) : Prop where
  ex : ∃ dx qa ra, H a = some (.ins C dx (tabF qa ra)) ∧ H qa = some (.lst (ns.map V.str)) ∧ TRows H ra ns.length tbl
theorem TRows.same {H H' : Hp} {ra : Addr} {n : Nat} {tbl : List (List Int)} (t : TRows H ra n tbl) (s : Same H H') : TRows H' ra n tbl := by
  obtain ⟨ps, o, r⟩ := t
  exact ⟨ps, s _ _ o, Paired.mapP r fun p vs h => ⟨s _ _ h.1, h.2⟩⟩
theorem TabAt.same {H H' : Hp} {C a : Addr} {ns : List Str} {tbl : List (List Int)} (t : TabAt H C a ns tbl) (s : Same H H') : TabAt H' C a ns tbl := by
  obtain ⟨dx, qa, ra, h1, h2, h3⟩ := t.ex
  exact ⟨dx, qa, ra, s _ _ h1, s _ _ h2, h3.same s⟩
structure TabC (K : PySem.W.Frag) (C : Addr) : Prop where
  cl : Cls K C
  nQ : NoAttr K C "_questions"
  nR : NoAttr K C "_rows"
def spQs (K : PySem.W.Frag) (C : Addr) : Sp := fun vs H Q _ => ∃ (a : Addr) (ns : List Str) (tbl : List (List Int)), vs = [.ref a] ∧ TabAt H C a ns tbl ∧ ∀ H' q, H q = none → H' q = some (.lst (ns.map V.str)) → Same H H' → Q (.ref q) H'
def idx (ns : List Str) (x : Str) : Nat := ns.idxOf x
def spPlaces (K : PySem.W.Frag) (C : Addr) : Sp := fun vs H Q _ => ∃ (a b : Addr) (ns known : List Str) (tbl : List (List Int)), vs = [.ref a, .ref b] ∧ TabAt H C a ns tbl ∧ SqA K H b (known.map V.str) ∧ (∀ x ∈ known, x ∈ ns) ∧ known.length < 1000 ∧
  ∀ H' q, H q = none → H' q = some (.lst (known.map fun x => V.int (idx ns x : Nat))) → Same H H' → Q (.ref q) H'
theorem scQs : FnScope ["self"] ["self"] (defScope sQs) := ⟨rfl, rfl, rfl, by decide +kernel, rfl, by decide +kernel, by decide +kernel⟩
abbrev NP : List Str := ["self", "names", "name"]
theorem scPlaces : FnScope NP ["self", "names"] (defScope sPlaces) := ⟨rfl, rfl, rfl, by decide +kernel, rfl, by decide +kernel, by decide +kernel⟩
theorem idx_at {ns : List Str} {x : Str} (h : x ∈ ns) : (ns.map V.str)[idx ns x]? = some (.str x) ∧ ∀ (m : Nat) (z : V), m < idx ns x → (ns.map V.str)[m]? = some z → eqV z (.str x) = false := by
  have lt : idx ns x < ns.length := List.idxOf_lt_length_of_mem h
  refine ⟨?_, fun m z lm ez => ?_⟩
  · rw [List.getElem?_map, List.getElem?_eq_getElem lt]
    have e : ns[idx ns x] = x := List.getElem_idxOf lt
    rw [e]; rfl
  · rw [List.getElem?_map] at ez
    obtain ⟨y, ey, rfl⟩ := Option.map_eq_some_iff.mp ez
    rw [str_inj]
    refine decide_eq_false fun q => ?_
    subst q
    have : idx ns y ≤ m := by
      obtain ⟨hm, em⟩ := List.getElem?_eq_some_iff.mp ey
      by_cases c : m < idx ns y
      · have z := List.not_of_lt_findIdx (p := fun a => a == y) (xs := ns) (i := m) c
        rw [em] at z
        simp at z
      · omega
    omega
section
variable {P : Program} {w : World} {K : PySem.W.Frag} {mg : Str → Option Value} {base : Heap} {f C : Addr} {fd : FuncData}
theorem ok_qs (F : Fun K "questions" "Table.questions" sQs f fd) (T : TabC K C) (gL : mg "list" = none) : FnOk P w K mg base CX0 1 f fd ["self"] (spQs K C) := by
  refine F.ok scQs (fun vs H Q E h => by obtain ⟨a, ns, tbl, e, _⟩ := h; rw [e]; rfl) fun cdv A outer s H vs Q E hr hsp => ?_
  obtain ⟨a, ns, tbl, rfl, ⟨dx, qa, ra, ha, hqa, hra⟩, hq⟩ := hsp
  refine ⟨_, pss_one (ps_ret (pe_callTy call_list_of rfl gL (by decide +kernel) (pa_cons (pe_fld (pv 0) rfl) pa_nil))), ?_⟩
  exact ⟨_, rfl, _, _, _, _, _, rfl, ha, T.cl, T.nQ, tabF_q _ _, _, _, rfl, .inl (SqL.of hqa), fun q nq => hq _ q nq upd_same (same_new nq)⟩
theorem ok_places (F : Fun K "_places" "Table._places" sPlaces f fd) (T : TabC K C) : FnOk P w K mg base CX0 1 f fd ["self", "names"] (spPlaces K C) := by
  refine F.ok scPlaces (fun vs H Q E h => by obtain ⟨a, b, ns, known, tbl, e, _⟩ := h; rw [e]; rfl) fun cdv A outer s H vs Q E hr hsp => ?_
  obtain ⟨a, b, ns, known, tbl, rfl, ⟨dx, qa, ra, ha, hqa, hra⟩, hb, sub, short, hq⟩ := hsp
  have nd := scPlaces.nd
  refine ⟨_, pss_one (ps_ret (pe_lc (own := [("name", 2)]) (tt := tYes) (te := tBM K "list" (rIndex K) (tFld K (tVar 0) "_questions") (tCons (tVar 2) tNil)) rfl nd (pi_seq (pv 1)) (blkOk_by (N := NP) (sc := defScope sPlaces) (by decide +kernel))
    (fun _ _ _ _ _ => pg_name (i := 2) nd rfl (Or.inl rfl)) (fun _ _ _ _ _ => pts_nil) (fun _ _ _ _ _ => pe_bm PySem.F.plainAttrs_list PySem.F.slot_list_index PySem.F.type_list_index mt_index (pe_fld (pv 0) rfl) (pa_cons (pv 2) pa_nil)))), ?_⟩
  obtain ⟨o, ho, ko⟩ : ∃ o, H b = some o ∧ (o = .lst (known.map V.str) ∨ o = .tup (known.map V.str)) := by
    rcases hb with e | e
    · exact ⟨_, e, .inl rfl⟩
    · exact ⟨_, e, .inr rfl⟩
  refine ⟨_, rfl, lc_seq ko ho (by rw [List.length_map]; omega) (fun _ => true) (fun v => match v with | .str x => .int (idx ns x : Nat) | _ => .non) ?_ ?_⟩
  · rintro i v H2 D N ev s2 yes no
    rw [List.getElem?_map] at ev
    obtain ⟨x, ex, rfl⟩ := Option.map_eq_some_iff.mp ev
    have xin : x ∈ ns := sub x (List.mem_of_getElem? ex)
    obtain ⟨i1, i2⟩ := idx_at xin
    refine ⟨rfl, ?_⟩
    refine ⟨_, rfl, _, _, _, _, _, rfl, s2 _ _ ha, T.cl, T.nQ, tabF_q _ _, .inl ⟨rfl, _, SqL.of (s2 _ _ hqa)⟩, _, rfl, ?_⟩
    exact ⟨qa, _, .str x, idx ns x, .str x, rfl, rfl, SqL.of (s2 _ _ hqa), rfl, flat_strs ns, i1, by rw [str_inj]; simp, i2, yes rfl H2 (Same.refl _)⟩
  · intro H2 q nq oq s2
    refine hq H2 q nq ?_ s2
    rw [oq, List.filter_eq_self.mpr (fun _ _ => rfl), List.map_map]
    rfl
end
end L2.TB
namespace L2.TB
open PySem PySem.Spec PyProof.Rows
/-! two rows that part -/
/-- the answer of a row -/
def av (ns : List Str) (vs : List Int) (x : Str) : Int := vs.getD (idx ns x) 0
def keyR (ns known : List Str) (vs : List Int) : List Int := known.map (av ns vs)
def keyK (ks : List Int) : List Key := ks.map Sum.inl
theorem keyK_kV (ks : List Int) : (keyK ks).map kV = ks.map V.int := by
  unfold keyK; rw [List.map_map]; rfl
theorem keyK_inj {a b : List Int} (h : keyK a = keyK b) : a = b := by
  unfold keyK at h
  exact (List.map_inj_right (fun x y e => Sum.inl.inj e)).mp h
/-- known tells asked, over these rows -/
def Tells (ns : List Str) (tbl : List (List Int)) (known : List Str) (x : Str) : Prop := ∀ u ∈ tbl, ∀ v ∈ tbl, keyR ns known u = keyR ns known v → av ns u x = av ns v x
instance (ns tbl known x) : Decidable (Tells ns tbl known x) := by unfold Tells; exact inferInstance
def spParting (K : PySem.W.Frag) (C : Addr) : Sp := fun vs H Q _ => ∃ (a b : Addr) (ns known : List Str) (x : Str) (tbl : List (List Int)), vs = [.ref a, .ref b, .str x] ∧ TabAt H C a ns tbl ∧ SqA K H b (known.map V.str) ∧ (∀ x ∈ known, x ∈ ns) ∧ known.length < 1000 ∧ x ∈ ns ∧ tbl.length < 1000 ∧
  (Tells ns tbl known x → ∀ H', Same H H' → Q .non H') ∧
  (¬ Tells ns tbl known x → ∀ H' t p q u v, H t = none → H' t = some (.tup [.ref p, .ref q]) → u ∈ tbl → v ∈ tbl → H' p = some (.tup (u.map V.int)) → H' q = some (.tup (v.map V.int)) → keyR ns known u = keyR ns known v → av ns u x ≠ av ns v x → Same H H' → Q (.ref t) H')
abbrev NPa : List Str := ["self", "known", "asked", "places", "place", "first", "row", "key", "k"]
theorem scParting : FnScope NPa ["self", "known", "asked"] (defScope sParting) := ⟨rfl, rfl, rfl, by decide +kernel, rfl, by decide +kernel, by decide +kernel⟩
/-- what the dict of first rows knows behind i rows -/
structure First (ns known : List Str) (x : Str) (ps : List Addr) (tbl : List (List Int)) (i : Nat) (kvs : List (List Key × V)) : Prop where
  has : ∀ (j : Nat) (v : List Int), j < i → tbl[j]? = some v → ∃ (j0 : Nat) (u : List Int), tbl[j0]? = some u ∧ ∃ p : Addr, ps[j0]? = some p ∧ valV kvs (keyK (keyR ns known v)) = some (.ref p) ∧ keyR ns known u = keyR ns known v ∧ av ns u x = av ns v x
  from_ : ∀ (k : List Key) (y : V), valV kvs k = some y → ∃ (j : Nat) (u : List Int) (p : Addr), tbl[j]? = some u ∧ ps[j]? = some p ∧ y = .ref p ∧ k = keyK (keyR ns known u)
  len : kvs.length ≤ i
theorem av_at {ns : List Str} {vs : List Int} {x : Str} (h : x ∈ ns) (hl : vs.length = ns.length) : atI (vs.map V.int) ((idx ns x : Nat) : Int) = some (.int (av ns vs x)) := by
  have lt : idx ns x < ns.length := List.idxOf_lt_length_of_mem h
  refine atI_nat ?_
  rw [List.getElem?_map, List.getElem?_eq_getElem (by omega)]
  unfold av
  rw [List.getD_eq_getElem?_getD, List.getElem?_eq_getElem (by omega)]
  rfl
theorem paired_get {α β : Type} {F : α → β → Prop} {as : List α} {bs : List β} (p : Paired F as bs) : ∀ {i : Nat} {a : α}, as[i]? = some a → ∃ b, bs[i]? = some b ∧ F a b := by
  induction p with
  | nil => intro i a h; simp at h
  | cons h t ih =>
    intro i a e
    cases i with
    | zero =>
      obtain rfl := Option.some.inj e
      exact ⟨_, rfl, h⟩
    | succ i => exact ih (i := i) e
section
variable {P : Program} {w : World} {K : PySem.W.Frag} {mg : Str → Option Value} {base : Heap} {f C fP : Addr} {fd fdP : FuncData}
theorem ok_parting (F : Fun K "_parting_rows" "Table._parting_rows" sParting f fd) (FP : Fun K "_places" "Table._places" sPlaces fP fdP) (mP : Meth K C "_places" fP) (T : TabC K C) (gT : mg "tuple" = none) : FnOk P w K mg base CX0 2 f fd ["self", "known", "asked"] (spParting K C) := by
  have G : FnOk P w K mg base CX0 1 fP fdP ["self", "names"] (spPlaces K C) := ok_places FP T
  have b := FP.binds (ps := ["self", "names"]) fun _ _ _ _ _ _ us hl => match us, hl with | [_, _], _ => rfl
  refine F.ok scParting (fun vs H Q E h => by obtain ⟨a, b, ns, known, x, tbl, e, _⟩ := h; rw [e]; rfl) fun cdv A outer s H vs Q E hr hsp => ?_
  obtain ⟨a, bk, ns, known, x, tbl, rfl, hT, hb, sub, short, xin, shortT, yes, no⟩ := hsp
  have nd := scParting.nd
  have hu := hu_of hr
  refine ⟨_, pss_cons (ps_set (i := 3) nd rfl (Or.inl rfl) (pe_meth (pv 0) T.cl mP G hr b .nil pass0 (pa_cons (pv 1) pa_nil)))
    (pss_cons (ps_set (i := 4) nd rfl (Or.inl rfl) (pe_bm PySem.F.plainAttrs_list PySem.F.slot_list_index PySem.F.type_list_index mt_index (pe_fld (pv 0) rfl) (pa_cons (pv 2) pa_nil)))
    (pss_cons (ps_set (i := 5) nd rfl (Or.inl rfl) pe_dnewT)
    (pss_cons (ps_for PassesOwn.never rfl (pi_seq (pe_fld (pv 0) rfl)) (pg_name (i := 6) nd rfl (Or.inr rfl))
      (pss_cons (ps_set (i := 7) nd rfl (Or.inl rfl) (pe_callTy call_tuple_of rfl gT boot_tuple' (pa_cons (pe_lc (own := [("k", 8)]) (tt := tYes) rfl nd (pi_seq (pv 3)) (blkOk_by (N := NPa) (sc := defScope sParting) (by decide +kernel))
          (fun _ _ _ _ _ => pg_name (i := 8) nd rfl (Or.inl rfl)) (fun _ _ _ _ _ => pts_nil) (fun _ _ _ _ _ => pe_ix (r := rIxT K) ix_tup (pv 6) (pv 8) (fun _ _ => rfl))) pa_nil)))
      (pss_one (ps_if (pt_cmp (pc_dnotin hu (pv 7) (pv 5))) (pss_one (ps_dput hu (pv 5) (pv 7) (pv 6) rfl))
        (pss_one (ps_if (pt_cmpR op_ne (pe_ix ix_tup (pe_dget hu (pv 5) (pv 7) (fun _ _ => rfl)) (pv 4) (fun _ _ => rfl)) (pe_ix ix_tup (pv 6) (pv 4) (fun _ _ => rfl)) (nomark _))
          (pss_one (ps_ret (pe_tup (pa_cons (pe_dget hu (pv 5) (pv 7) (fun _ _ => rfl)) (pa_cons (pv 6) pa_nil))))) pss_nil))))))
    (pss_one (ps_ret pe_non))))), ?_⟩
  obtain ⟨dx, qa, ra, ha, hqa, hra⟩ := hT.ex
  refine ⟨_, rfl, a, dx, _, rfl, ha, rfl, _, rfl, a, bk, ns, known, tbl, rfl, hT, hb, sub, short, fun H1 pl npl opl s1 => ?_⟩
  obtain ⟨i1, i2⟩ := idx_at xin
  refine ⟨_, rfl, _, _, _, _, _, rfl, s1 _ _ ha, T.cl, T.nQ, tabF_q _ _, .inl ⟨rfl, _, SqL.of (s1 _ _ hqa)⟩, _, rfl, qa, _, .str x, idx ns x, .str x, rfl, rfl, SqL.of (s1 _ _ hqa), rfl, flat_strs ns, i1, by rw [str_inj]; simp, i2, ?_⟩
  intro d nd1
  have sd := same_new (o := .dT []) nd1
  obtain ⟨ps, ora, prs⟩ := hra.same s1
  have lps : ps.length = tbl.length := Paired.length prs
  refine ⟨_, rfl, _, _, _, _, _, rfl, sd _ _ (s1 _ _ ha), T.cl, T.nR, tabF_r _ _, for_seq (.inl rfl) (fun i σ H' => H' ra = some (.lst (ps.map V.ref)) ∧ Same H1 H' ∧ ∃ kvs s6 s7 s8, σ = [some (.ref a), some (.ref bk), some (.str x), some (.ref pl), some (.int (idx ns x : Nat)), some (.ref d), s6, s7, s8] ∧ H' d = some (.dT kvs) ∧ First ns known x ps tbl i kvs)
    ⟨sd _ _ ora, sd, [], _, _, _, rfl, upd_same, ⟨fun j v z => absurd z (Nat.not_lt_zero _), fun k y e => by simp [valV] at e, Nat.zero_le _⟩⟩ (fun i σ H' _ h => h.1) ?_ ?_⟩
  · rintro i vp σ H2 evp ⟨ora2, s2, kvs, s6, s7, s8, rfl, od, FS⟩
    rw [List.getElem?_map] at evp
    obtain ⟨p, ep, rfl⟩ := Option.map_eq_some_iff.mp evp
    obtain ⟨v, ev, op, lv⟩ := paired_get prs ep
    have op2 := s2 _ _ op
    have vin : v ∈ tbl := List.mem_of_getElem? ev
    have hi : i < tbl.length := (List.getElem?_eq_some_iff.mp ev).1
    -- the key
    refine ⟨_, rfl, lc_seq (.inl rfl) (s2 _ _ opl) (by rw [List.length_map]; omega) (fun _ => true) (fun y => match y with | .int n => .int (v.getD n.toNat 0) | _ => .non) ?_ ?_⟩
    · rintro j y H3 Cn Nn ey s3 yes3 no3
      rw [List.getElem?_map] at ey
      obtain ⟨z, ez, rfl⟩ := Option.map_eq_some_iff.mp ey
      have zin : z ∈ ns := sub z (List.mem_of_getElem? ez)
      refine ⟨rfl, ?_⟩
      exact ⟨_, rfl, _, rfl, p, _, _, _, rfl, rfl, SqT.of (s3 _ _ op2), av_at zin lv, yes3 rfl H3 (Same.refl _)⟩
    · intro H3 l nl ol s3
      have ekey : ((known.map fun x => V.int (idx ns x : Nat)).filter fun _ => true).map (fun y => match y with | V.int n => V.int (v.getD n.toNat 0) | _ => V.non) = (keyK (keyR ns known v)).map kV := by
        rw [keyK_kV, List.filter_eq_self.mpr (fun _ _ => rfl), List.map_map]
        unfold keyR
        rw [List.map_map]
        rfl
      rw [ekey] at ol
      refine ⟨l, _, rfl, .inl ⟨SqL.of ol, fun kt nkt => ?_⟩⟩
      have sk := same_new (o := .tup ((keyK (keyR ns known v)).map kV)) nkt
      have ok3 : upd H3 kt (.tup ((keyK (keyR ns known v)).map kV)) kt = some (.tup ((keyK (keyR ns known v)).map kV)) := upd_same
      generalize upd H3 kt (.tup ((keyK (keyR ns known v)).map kV)) = H4 at sk ok3
      have s24 := s3.trans sk
      have od4 := s24 _ _ od
      have op4 := s24 _ _ op2
      have ndk : ∀ {u o}, H1 u = some o → u ≠ d := fun e => ne_of_none e nd1
      refine ⟨_, rfl, _, rfl, d, _, rfl, DGet.t od4 ok3, _, rfl, ?_⟩
      cases ek : valV kvs (keyK (keyR ns known v)) with
      | none =>
        refine iteT ?_
        refine ⟨_, rfl, _, rfl, _, rfl, d, _, rfl, DPut.t od4 ok3 (by rw [sizeLine_eq]; have := FS.len; omega), ?_, ?_, putK kvs (keyK (keyR ns known v)) (.ref p), _, _, _, rfl, upd_same, ?_⟩
        · rw [upd_ne (ndk ora)]; exact s24 _ _ ora2
        · intro b' u' e
          rw [upd_ne (ndk e)]; exact s24 _ _ (s2 _ _ e)
        · refine ⟨fun j v' hj ev' => ?_, fun k y e => ?_, ?_⟩
          · by_cases hji : j = i
            · subst hji
              rw [ev] at ev'
              obtain rfl := Option.some.inj ev'
              exact ⟨j, v, ev, p, ep, by rw [valV_put, if_pos rfl], rfl, rfl⟩
            · obtain ⟨j0, u, eu, p0, ep0, e0, k0, a0⟩ := FS.has j v' (by omega) ev'
              refine ⟨j0, u, eu, p0, ep0, ?_, k0, a0⟩
              rw [valV_put, if_neg, e0]
              intro z
              rw [z, ek] at e0; cases e0
          · rw [valV_put] at e
            by_cases hk : k = keyK (keyR ns known v)
            · rw [if_pos hk] at e
              obtain rfl := Option.some.inj e
              exact ⟨i, v, p, ev, ep, rfl, hk⟩
            · rw [if_neg hk] at e
              exact FS.from_ k y e
          · rw [putK_new _ ek, List.length_append]
            have := FS.len
            show kvs.length + 1 ≤ _
            omega
      | some y =>
        refine iteF ?_
        obtain ⟨j0, u, p0, eu, ep0, rfl, ek0⟩ := FS.from_ _ _ ek
        have ek1 : keyR ns known u = keyR ns known v := (keyK_inj ek0).symm
        obtain ⟨u', eu', op0, lu⟩ := paired_get prs ep0
        rw [eu] at eu'
        obtain rfl := Option.some.inj eu'
        have op04 := s24 _ _ (s2 _ _ op0)
        have uin : u ∈ tbl := List.mem_of_getElem? eu
        have dg : DGet H4 d (.ref kt) (some (.ref p0)) := ek ▸ DGet.t od4 ok3
        refine ⟨_, rfl, _, rfl, d, _, rfl, dg, _, rfl, p0, _, _, _, rfl, rfl, SqT.of op04, av_at xin lu, _, rfl, _, rfl, p, _, _, _, rfl, rfl, SqT.of op4, av_at xin lv, rfl, _, rfl, ite2 (fun e => ?_) (fun e => ?_)⟩
        · refine ⟨_, rfl, _, rfl, d, _, rfl, dg, _, rfl, (by show 2 ≤ sizeLine; decide), fun t nt => ?_⟩
          have st := same_new (o := .tup [.ref p0, .ref p]) nt
          have s14 : Same H1 H4 := s2.trans s24
          have nt0 : H t = none := (s1.trans s14).free nt
          refine no (fun T => ?_) _ t p0 p u v nt0 upd_same uin vin (st _ _ op04) (st _ _ op4) ek1 ?_ ((s1.trans s14).trans st)
          · rw [T u uin v vin ek1, decide_eq_true rfl] at e
            cases e
          · intro z
            rw [z, decide_eq_true rfl] at e
            cases e
        · refine ⟨s24 _ _ ora2, s2.trans s24, kvs, _, _, _, rfl, od4, ?_⟩
          refine ⟨fun j v' hj ev' => ?_, FS.from_, Nat.le_succ_of_le FS.len⟩
          by_cases hji : j = i
          · subst hji
            rw [ev] at ev'
            obtain rfl := Option.some.inj ev'
            refine ⟨j0, u, eu, p0, ep0, ek, ek1, ?_⟩
            by_cases z : av ns u x = av ns v x
            · exact z
            · have z2 : ¬ V.int (av ns u x) = V.int (av ns v x) := fun y => z (V.int.inj y)
              rw [decide_eq_false z2] at e
              exact absurd rfl e
          · exact FS.has j v' (by omega) ev'
  · rintro σ H2 ⟨ora2, s2, kvs, s6, s7, s8, rfl, od, FS⟩
    refine yes (fun u hu v hv e => ?_) _ (s1.trans s2)
    obtain ⟨j, hj, eu⟩ := List.getElem_of_mem hu
    obtain ⟨j', hj', ev⟩ := List.getElem_of_mem hv
    have lt : ∀ n, n < tbl.length → n < (ps.map V.ref).length := fun n h => by rw [List.length_map]; omega
    obtain ⟨j0, u0, eu0, p0, ep0, w0, k0, a0⟩ := FS.has j u (lt _ hj) (by rw [List.getElem?_eq_getElem hj, eu])
    obtain ⟨j1, u1, eu1, p1, ep1, w1, k1, a1⟩ := FS.has j' v (lt _ hj') (by rw [List.getElem?_eq_getElem hj', ev])
    rw [e, w1] at w0
    have ep : p1 = p0 := V.ref.inj (Option.some.inj w0)
    subst ep
    obtain ⟨x0, ex0, o0, _⟩ := paired_get prs ep0
    obtain ⟨x1, ex1, o1, _⟩ := paired_get prs ep1
    rw [eu0] at ex0
    rw [eu1] at ex1
    obtain rfl := Option.some.inj ex0
    obtain rfl := Option.some.inj ex1
    rw [o0] at o1
    have same : u0.map V.int = u1.map V.int := HO.tup.inj (Option.some.inj o1)
    have same2 : u0 = u1 := (List.map_inj_right (fun x y e => V.int.inj e)).mp same
    rw [← a0, ← a1, same2]
end
end L2.TB
namespace L2.TB
open PySem PySem.Spec PyProof.Rows
/-! what is told -/
/-- the places of the table's methods -/
structure TabM (K : PySem.W.Frag) (C fQ fI fPl fPr : Addr) : Prop extends TabC K C where
  Q : ∃ fd, Fun K "questions" "Table.questions" sQs fQ fd
  I : ∃ fd, Fun K "is_told" "Table.is_told" sIsTold fI fd
  L : ∃ fd, Fun K "_places" "Table._places" sPlaces fPl fd
  R : ∃ fd, Fun K "_parting_rows" "Table._parting_rows" sParting fPr fd
  mQ : Meth K C "questions" fQ
  mI : Meth K C "is_told" fI
  mL : Meth K C "_places" fPl
  mR : Meth K C "_parting_rows" fPr
/-- a table and known ones of it -/
structure Asked (K : PySem.W.Frag) (H : Hp) (C a b : Addr) (ns known : List Str) (tbl : List (List Int)) : Prop where
  t : TabAt H C a ns tbl
  k : SqA K H b (known.map V.str)
  nd : known.Nodup
  sub : ∀ x ∈ known, x ∈ ns
  s1 : ns.length < 1000
  s2 : tbl.length < 1000
  ndn : ns.Nodup
theorem Asked.short {K : PySem.W.Frag} {H : Hp} {C a b : Addr} {ns known : List Str} {tbl : List (List Int)} (h : Asked K H C a b ns known tbl) : known.length < 1000 := by
  have := List.Nodup.length_le_of_subset h.nd (fun x hx => h.sub x hx)
  have := h.s1
  omega
theorem Asked.same {K : PySem.W.Frag} {H H' : Hp} {C a b : Addr} {ns known : List Str} {tbl : List (List Int)} (h : Asked K H C a b ns known tbl) (s : Same H H') : Asked K H' C a b ns known tbl :=
  ⟨h.t.same s, h.k.same s, h.nd, h.sub, h.s1, h.s2, h.ndn⟩
def spIsTold (K : PySem.W.Frag) (C : Addr) : Sp := fun vs H Q _ => ∃ (a b : Addr) (ns known : List Str) (x : Str) (tbl : List (List Int)), vs = [.ref a, .ref b, .str x] ∧ Asked K H C a b ns known tbl ∧ x ∈ ns ∧ ∀ H', Same H H' → Q (.bl (decide (Tells ns tbl known x))) H'
def toldL (ns : List Str) (tbl : List (List Int)) (known : List Str) : List Str := ns.filter fun x => decide (Tells ns tbl known x)
theorem scIsTold : FnScope ["self", "known", "asked"] ["self", "known", "asked"] (defScope sIsTold) := ⟨rfl, rfl, rfl, by decide +kernel, rfl, by decide +kernel, by decide +kernel⟩
def isStr (f : Str → Bool) : V → Bool
  | .str x => f x
  | _ => false
theorem filter_strs (f : Str → Bool) (xs : List Str) : ((xs.map V.str).filter (isStr f)).map id = (xs.filter f).map V.str := by
  rw [List.map_id, List.filter_map]; rfl
section
variable {P : Program} {w : World} {K : PySem.W.Frag} {mg : Str → Option Value} {base : Heap} {f C fQ fI fPl fPr aF aL aO aK aA aB : Addr} {fd : FuncData}
theorem ok_isTold (F : Fun K "is_told" "Table.is_told" sIsTold f fd) (T : TabM K C fQ fI fPl fPr) (Ck : Chk K mg aF aL aO aK aA aB) : FnOk P w K mg base CX0 5 f fd ["self", "known", "asked"] (spIsTold K C) := by
  obtain ⟨fdB, FB⟩ := Ck.CB
  have GB := ok_ckB (P := P) (w := w) (base := base) Ck FB
  have bB := FB.binds (ps := ["names", "known", "asked"]) fun _ _ _ _ _ _ us hl => match us, hl with | [_, _, _], _ => rfl
  obtain ⟨fdL, FL⟩ := T.L
  obtain ⟨fdR, FR⟩ := T.R
  have GR := ok_parting (P := P) (w := w) (mg := mg) (base := base) FR FL T.mL T.toTabC Ck.nT
  have bR := FR.binds (ps := ["self", "known", "asked"]) fun _ _ _ _ _ _ us hl => match us, hl with | [_, _, _], _ => rfl
  refine F.ok scIsTold (fun vs H Q E h => by obtain ⟨a, b, ns, known, x, tbl, e, _⟩ := h; rw [e]; rfl) fun cdv A outer s H vs Q E hr hsp => ?_
  obtain ⟨a, b, ns, known, x, tbl, rfl, ask, xin, hq⟩ := hsp
  refine ⟨_, pss_cons (ps_expr (pe_call GB hr rfl Ck.gCB FB.kp bB .nil pass0 (pa_cons (pe_fld (pv 0) rfl) (pa_cons (pv 1) (pa_cons (pv 2) pa_nil)))))
    (pss_one (ps_ret (pe_cmp (pc_isN (pe_meth (pv 0) T.cl T.mR GR (hr.mono (by decide)) bR .nil pass0 (pa_cons (pv 1) (pa_cons (pv 2) pa_nil))))))), ?_⟩
  obtain ⟨dx, qa, ra, ha, hqa, hra⟩ := ask.t.ex
  refine ⟨_, rfl, _, _, _, _, _, rfl, ha, T.cl, T.nQ, tabF_q _ _, _, rfl, _, rfl, qa, b, ns, known, x, rfl, hqa, ask.k, ask.nd, ask.sub, ask.short, xin, fun H1 s1 => ?_⟩
  refine ⟨_, rfl, a, dx, _, rfl, s1 _ _ ha, rfl, _, rfl, _, rfl, a, b, ns, known, x, tbl, rfl, ask.t.same s1, ask.k.same s1, ask.sub, ask.short, xin, ask.s2, fun yes H' s' => ?_, fun no H' t p q u v _ _ _ _ _ _ _ _ s' => ?_⟩
  · have z := hq H' (s1.trans s')
    rw [decide_eq_true yes] at z
    exact z
  · have z := hq H' (s1.trans s')
    rw [decide_eq_false no] at z
    exact z
end
end L2.TB
namespace L2.TB
open PySem PySem.Spec PyProof.Rows
theorem boot_all' : bootBuiltins "all" = some (.builtin "all") := by decide +kernel
/-- a comprehension without a test over anything: ys is what it makes -/
theorem lc_gen {J : It} {g : TG} {tt : TT} {te : TE} {vs : List Nat} {σ : St} {H1 : Hp} {Q : Addr → Hp → Prop} (ys : List V) (short : ys.length < 1000000) (go : ∀ i H, Same H1 H → i < ys.length → J.go i H) (stop : ∀ H, Same H1 H → J.stop ys.length H)
    (turn : ∀ (i : Nat) (x y : V) (H H' : Hp) (C : V → Hp → Prop) (N : Hp → Prop), ys[i]? = some y → Same H1 H → J.yld i H x H' → (∀ H4, Same H H4 → C y H4) → g x (wipe σ vs) H' fun σ2 H2 => wipe σ2 vs = wipe σ vs ∧ tt σ2 H2 fun b H3 => if b = true then te σ2 H3 C else N H3)
    (fin : ∀ H D, H1 D = none → H D = some (.lst ys) → Same H1 H → Q D H) : LcW J g tt te vs σ H1 Q := by
  intro D nD
  refine ⟨fun i m H => m = ys.length - i ∧ i ≤ ys.length ∧ H D = some (.lst (ys.take i)) ∧ Same H1 H, ⟨_, rfl, Nat.zero_le _, upd_same, same_new nD⟩, ?_⟩
  rintro i m H ⟨rfl, le, oD, s1⟩
  by_cases lt : i < ys.length
  · refine .inr ⟨go i H s1 lt, fun H' => H' D = some (.lst (ys.take (i + 1))) ∧ Same H1 H', fun H' h => ⟨ys.length - (i + 1), by omega, rfl, lt, h⟩, fun x H' yl => ?_⟩
    have ey : ys[i]? = some ys[i] := List.getElem?_eq_getElem lt
    refine turn i x ys[i] H H' _ _ ey s1 yl fun H4 s4 => ⟨_, s4 _ _ oD, ?_, ?_, ?_⟩
    · rw [sizeLine_eq, List.length_take]; omega
    · rw [upd_same, List.take_succ, ey]; rfl
    · intro b u e
      rw [upd_ne (ne_of_none e nD)]
      exact s4 _ _ (s1 _ _ e)
  · obtain rfl : i = ys.length := by omega
    rw [List.take_length] at oD
    exact .inl ⟨stop H s1, fin H D nD oD s1⟩
def bools (n : Nat) : List V := List.replicate n (V.bl true)
theorem bools_map (n : Nat) : bools n = (List.replicate n true).map V.bl := by unfold bools; rw [List.map_replicate]
theorem bools_at {n i : Nat} {y : V} (h : (bools n)[i]? = some y) : y = .bl true ∧ i < n := by
  unfold bools at h
  rw [List.getElem?_replicate] at h
  split at h
  · exact ⟨(Option.some.inj h).symm, by assumption⟩
  · cases h
theorem bools_len (n : Nat) : (bools n).length = n := List.length_replicate
theorem all_true (n : Nat) : (List.replicate n true).all id = true := by simp
def spIsName : Sp := fun vs H Q _ => ∃ x : Str, vs = [.str x] ∧ NmOk x ∧ ∀ H', Same H H' → Q (.bl true) H'
abbrev NIn : List Str := ["thing", "sign"]
theorem scIsName : FnScope NIn ["thing"] (defScope sIsName) := ⟨rfl, rfl, rfl, by decide +kernel, rfl, by decide +kernel, by decide +kernel⟩
/-- a dict has just these names, all true -/
def spHasJust : Sp := fun vs H Q _ => ∃ (d c : Addr) (kvs : List (Key × V)) (ns : List Str), vs = [.ref d, .ref c] ∧ H d = some (.dK kvs) ∧ H c = some (.lst (ns.map V.str)) ∧ kvs.map (·.1) = ns.map Sum.inr ∧ ns.length < 1000 ∧ ∀ H', Same H H' → Q (.bl true) H'
abbrev NHj : List Str := ["thing", "names", "name"]
theorem scHasJust : FnScope NHj ["thing", "names"] (defScope sHasJust) := ⟨rfl, rfl, rfl, by decide +kernel, rfl, by decide +kernel, by decide +kernel⟩
section
variable {P : Program} {w : World} {K : PySem.W.Frag} {mg : Str → Option Value} {base : Heap} {f : Addr} {fd : FuncData}
theorem ok_isName (F : Fun K "is_name" "is_name" sIsName f fd) (gI : mg "isinstance" = none) (gS : mg "str" = none) (gN : mg "len" = none) (gA : mg "all" = none) (gL : ∃ t, mg "LONGEST" = some (.int 40 t)) (gSg : ∃ t, mg "SIGNS" = some (.str (Str.ofString "abcdefghijklmnopqrstuvwxyz0123456789.") t)) :
    FnOk P w K mg base CX0 1 f fd ["thing"] spIsName := by
  obtain ⟨tL, gL⟩ := gL
  obtain ⟨tS, gSg⟩ := gSg
  refine F.ok scIsName (fun vs H Q E h => by obtain ⟨x, e, _⟩ := h; rw [e]; rfl) fun cdv A outer s H vs Q E hr hsp => ?_
  obtain ⟨x, rfl, ok, hq⟩ := hsp
  obtain ⟨l1, l2, chars⟩ := ok
  have nd := scIsName.nd
  refine ⟨_, pss_cons (ps_if (PW.pt (pw_or (pt_not (pt_val (pe_callB (r := rIsi K) call_isi rfl gI boot_isi (pa_cons (pv 0) (pa_cons (pe_bltn (v := .ty "str") rfl gS boot_str' rfl) pa_nil)))))
      (pw_or1 (pt_not (pt_chain op_le op_le pe_int (pe_callB call_len_str rfl gN boot_len (pa_cons (pv 0) pa_nil)) (pe_glob (v := .int 40) rfl gL ⟨_, rfl⟩)))))) (pss_one ps_never) pss_nil)
    (pss_one (ps_ret (pe_callB (cr_all rfl) rfl gA boot_all' (pa_cons (pe_lc (own := [("sign", 1)]) (tt := tYes) rfl nd (pi_str (pv 0)) (blkOk_by (N := NIn) (sc := defScope sIsName) (by decide +kernel)) (fun _ _ _ _ _ => pg_name (i := 1) nd rfl (Or.inl rfl)) (fun _ _ _ _ _ => pts_nil)
      (fun _ _ _ _ _ => pe_cmpR op_in_sign (pv 1) (pe_glob (v := .str (Str.ofString "abcdefghijklmnopqrstuvwxyz0123456789.")) rfl gSg ⟨_, rfl⟩) rfl)) pa_nil)))), ?_⟩
  have lz : x.length = x.cps.toList.length := (Array.length_toList (xs := x.cps)).symm
  refine ⟨_, rfl, _, _, _, _, true, rfl, .ty _, .base (.str x), kit_ty (by decide +kernel), _, rfl, iteF ?_⟩
  refine ⟨_, rfl, x, rfl, (by rw [sizeLine_eq]; omega), _, _, rfl, rfl, _, rfl, ?_⟩
  rw [decide_eq_true (by omega : (1 : Int) ≤ (x.length : Nat))]
  refine iteT ⟨_, _, rfl, rfl, _, rfl, ?_⟩
  rw [decide_eq_true (by omega : ((x.length : Nat) : Int) ≤ 40)]
  refine iteF ?_
  refine ⟨_, rfl, x, rfl, lc_gen (bools x.cps.toList.length) (by rw [bools_len]; omega) (fun i H' _ lt => ?_) (fun H' _ => ?_) ?_ ?_⟩
  · rw [bools_len, Array.length_toList] at lt; exact lt
  · rw [bools_len, Array.length_toList]; exact Nat.le_refl _
  · rintro i v y H2 H3 Cn Nn ey s2 ⟨rfl, c, ec, rfl⟩ yes
    obtain ⟨rfl, lt⟩ := bools_at ey
    have cin : c ∈ signsL := chars c (List.mem_of_getElem? (by rw [Array.getElem?_toList]; exact ec))
    refine ⟨rfl, ?_⟩
    refine ⟨_, rfl, c, _, rfl, rfl, ?_⟩
    have z := yes H3 (Same.refl _)
    have e : decide (c ∈ (Str.ofString "abcdefghijklmnopqrstuvwxyz0123456789.").cps.toList) = true := decide_eq_true cin
    rw [e]
    exact z
  · intro H2 D nD oD s2
    rw [bools_map] at oD
    refine ⟨D, _, rfl, SqL.of oD, ?_⟩
    rw [all_true]
    exact hq H2 s2
end
end L2.TB
namespace L2.TB
open PySem PySem.Spec PyProof.Rows
theorem has_key {kvs : List (Key × V)} {ns : List Str} {x : Str} (h : kvs.map (·.1) = ns.map Sum.inr) (xin : x ∈ ns) : ∃ v, valV kvs (Sum.inr x) = some v := by
  have z : (Sum.inr x : Key) ∈ kvs.map (·.1) := by rw [h]; exact List.mem_map_of_mem xin
  obtain ⟨e, he, ee⟩ := List.mem_map.mp z
  have a : (kvs.any fun kv => decide (kv.1 = Sum.inr x)) = true := List.any_eq_true.mpr ⟨e, he, decide_eq_true ee⟩
  rw [valV_any] at a
  exact Option.isSome_iff_exists.mp a
theorem const_map (xs : List Str) : ((xs.map V.str).filter fun _ => true).map (fun _ => V.bl true) = bools xs.length := by
  rw [List.filter_eq_self.mpr (fun _ _ => rfl), List.map_map]
  unfold bools
  induction xs with
  | nil => rfl
  | cons a l ih => rw [List.map_cons, ih, List.length_cons, List.replicate_succ]; rfl
theorem dec_int2 (a b : Int) : decide (V.int a = V.int b) = decide (a = b) := by
  by_cases h : a = b
  · rw [h]; simp
  · rw [decide_eq_false h, decide_eq_false]
    exact fun z => h (V.int.inj z)
/-- dict rows of ints at as -/
def DRows (H : Hp) (ns : List Str) : List Addr → List (List Int) → Prop := Paired fun a vs => H a = some (.dK (dk ns vs)) ∧ vs.length = ns.length
theorem DRows.same {H H' : Hp} {ns : List Str} {as : List Addr} {tbl : List (List Int)} (r : DRows H ns as tbl) (s : Same H H') : DRows H' ns as tbl := Paired.mapP r fun a vs h => ⟨s _ _ h.1, h.2⟩
def spBadRow : Sp := fun vs H Q _ => ∃ (r : Addr) (as : List Addr) (ns : List Str) (tbl : List (List Int)), vs = [.ref r] ∧ H r = some (.lst (as.map V.ref)) ∧ DRows H ns as tbl ∧ tbl ≠ [] ∧ tbl.length < 1000 ∧ ns ≠ [] ∧ ns.Nodup ∧ (∀ x ∈ ns, NmOk x) ∧ ns.length < 1000 ∧ ∀ H', Same H H' → Q .non H'
abbrev NB : List Str := ["rows", "index", "row", "name"]
theorem scBadRow : FnScope NB ["rows"] (defScope sBadRow) := ⟨rfl, rfl, rfl, by decide +kernel, rfl, by decide +kernel, by decide +kernel⟩
theorem lock_off {H H' : Hp} {d : Addr} {u : HO} {od : Obj} (hd : H d = some u) (s : Same (upd H d (.frz od u)) H') : H' d = some (.frz od u) ∧ Same H (upd H' d u) := by
  refine ⟨s _ _ upd_same, fun b o e => ?_⟩
  by_cases hb : b = d
  · rw [hb, upd_same, ← hd, ← hb]; exact e
  · rw [upd_ne hb]
    exact s _ _ (by rw [upd_ne hb]; exact e)
theorem dk_at {ns : List Str} {vs : List Int} {i : Nat} {k : Key} {v : V} (h : (dk ns vs)[i]? = some (k, v)) (nd : ns.Nodup) (hl : ns.length = vs.length) : ∃ x n, k = Sum.inr x ∧ v = .int n ∧ ns[i]? = some x ∧ valV (dk ns vs) (Sum.inr x) = some (.int n) := by
  unfold dk at h ⊢
  rw [List.getElem?_map] at h
  obtain ⟨p, ep, e⟩ := Option.map_eq_some_iff.mp h
  cases e
  have ez : (ns.zip vs)[i]? = some p := ep
  rw [List.getElem?_zip_eq_some] at ez
  refine ⟨p.1, p.2, rfl, rfl, ez.1, ?_⟩
  have nk : (((ns.zip vs).map fun p : Str × Int => ((Sum.inr p.1 : Key), V.int p.2)).map (·.1)).Nodup := dk_nd hl nd
  have mem : ((Sum.inr p.1 : Key), V.int p.2) ∈ (ns.zip vs).map fun p : Str × Int => ((Sum.inr p.1 : Key), V.int p.2) := List.mem_map_of_mem (List.mem_of_getElem? ep)
  generalize (ns.zip vs).map (fun p : Str × Int => ((Sum.inr p.1 : Key), V.int p.2)) = kvs at nk mem
  clear h ez ep
  induction kvs with
  | nil => cases mem
  | cons q kvs ih =>
    unfold valV
    rw [List.find?_cons]
    by_cases hq : q.1 = Sum.inr p.1
    · rw [decide_eq_true hq]
      rcases List.mem_cons.mp mem with z | z
      · rw [← z]; rfl
      · exfalso
        rw [List.map_cons, List.nodup_cons] at nk
        exact nk.1 (hq ▸ List.mem_map_of_mem (f := (·.1)) z)
    · rw [decide_eq_false hq]
      rcases List.mem_cons.mp mem with z | z
      · exact absurd (by rw [← z]) hq
      · rw [List.map_cons, List.nodup_cons] at nk
        exact ih nk.2 z
section
variable {P : Program} {w : World} {K : PySem.W.Frag} {mg : Str → Option Value} {base : Heap} {f fL fI fN fH : Addr} {fd fdL fdI fdN fdH : FuncData}
theorem ok_hasJust (F : Fun K "has_just" "has_just" sHasJust f fd) (gI : mg "isinstance" = none) (gD : mg "dict" = none) (gN : mg "len" = none) (gA : mg "all" = none) : FnOk P w K mg base CX0 1 f fd ["thing", "names"] spHasJust := by
  refine F.ok scHasJust (fun vs H Q E h => by obtain ⟨d, c, kvs, ns, e, _⟩ := h; rw [e]; rfl) fun cdv A outer s H vs Q E hr hsp => ?_
  obtain ⟨d, c, kvs, ns, rfl, hd, hc, hk, short, hq⟩ := hsp
  have nd := scHasJust.nd
  have hu := hu_of hr
  refine ⟨_, pss_one (ps_ret (pe_and (pe_callB (r := rIsi K) call_isi rfl gI boot_isi (pa_cons (pv 0) (pa_cons (pe_bltn (v := .ty "dict") rfl gD boot_dict' rfl) pa_nil))) (pe_and (pe_cmpR op_eq (pe_callB call_lenD rfl gN boot_len (pa_cons (pv 0) pa_nil)) (pe_callB call_len_seq rfl gN boot_len (pa_cons (pv 1) pa_nil)) (nomark _))
    (pe_one (pe_callB (cr_all rfl) rfl gA boot_all' (pa_cons (pe_lc (own := [("name", 2)]) (tt := tYes) rfl nd (pi_seq (pv 1)) (blkOk_by (N := NHj) (sc := defScope sHasJust) (by decide +kernel)) (fun _ _ _ _ _ => pg_name (i := 2) nd rfl (Or.inl rfl)) (fun _ _ _ _ _ => pts_nil)
      (fun _ _ _ _ _ => pe_cmp (pc_din hu (pv 2) (pv 0)))) pa_nil)))))), ?_⟩
  have lk : kvs.length = ns.length := by
    have z := congrArg List.length hk
    rw [List.length_map, List.length_map] at z
    exact z
  refine ⟨_, rfl, _, _, _, _, true, rfl, .ty _, .base (.dK hd), kit_ty (by decide +kernel), _, rfl, iteT ?_⟩
  refine ⟨_, rfl, d, kvs, rfl, hd, _, rfl, c, _, rfl, .inl (SqL.of hc), rfl, _, rfl, ?_⟩
  rw [dec_int2, List.length_map, lk, decide_eq_true rfl]
  refine iteT ⟨_, rfl, lc_seq (.inl rfl) hc (by rw [List.length_map]; omega) (fun _ => true) (fun _ => .bl true) ?_ ?_⟩
  · rintro i v H2 Cn Nn ev s2 yes no
    rw [List.getElem?_map] at ev
    obtain ⟨x, ex, rfl⟩ := Option.map_eq_some_iff.mp ev
    obtain ⟨y, ey⟩ := has_key hk (List.mem_of_getElem? ex)
    refine ⟨rfl, ?_⟩
    refine ⟨_, rfl, _, rfl, d, _, rfl, DGet.k (k := Sum.inr x) (s2 _ _ hd), ?_⟩
    rw [ey]
    exact yes rfl H2 (Same.refl _)
  · intro H2 D nD oD s2
    rw [const_map, bools_map] at oD
    refine ⟨D, _, rfl, SqL.of oD, ?_⟩
    rw [all_true]
    exact hq H2 s2
theorem ok_badRow (F : Fun K "_first_bad_row" "_first_bad_row" sBadRow f fd) (FL : Fun K "is_list" "is_list" sIsList fL fdL) (gIL : mg "is_list" = some (.ref fL)) (FI : Fun K "is_integer" "is_integer" sIsInt fI fdI) (gII : mg "is_integer" = some (.ref fI))
    (FN : Fun K "is_name" "is_name" sIsName fN fdN) (gIN : mg "is_name" = some (.ref fN)) (FH : Fun K "has_just" "has_just" sHasJust fH fdH) (gHJ : mg "has_just" = some (.ref fH))
    (gI : mg "isinstance" = none) (gL : mg "list" = none) (gT : mg "tuple" = none) (gS : mg "str" = none) (gE : mg "enumerate" = none) (gN : mg "len" = none) (gA : mg "all" = none) (gD : mg "dict" = none) (gInt : mg "int" = none) (gB : mg "bool" = none)
    (gLo : ∃ t, mg "LONGEST" = some (.int 40 t)) (gSg : ∃ t, mg "SIGNS" = some (.str (Str.ofString "abcdefghijklmnopqrstuvwxyz0123456789.") t)) : FnOk P w K mg base CX0 2 f fd ["rows"] spBadRow := by
  have GL : FnOk P w K mg base CX0 1 fL fdL ["thing"] (spIsList K) := ok_isList FL gI gL gT
  have bL := FL.binds (ps := ["thing"]) fun _ _ _ _ _ _ us hl => match us, hl with | [_], _ => rfl
  have GI : FnOk P w K mg base CX0 1 fI fdI ["thing"] spIsInt := ok_isInt FI gI gInt gB
  have bI := FI.binds (ps := ["thing"]) fun _ _ _ _ _ _ us hl => match us, hl with | [_], _ => rfl
  have GN : FnOk P w K mg base CX0 1 fN fdN ["thing"] spIsName := ok_isName FN gI gS gN gA gLo gSg
  have bN := FN.binds (ps := ["thing"]) fun _ _ _ _ _ _ us hl => match us, hl with | [_], _ => rfl
  have GH : FnOk P w K mg base CX0 1 fH fdH ["thing", "names"] spHasJust := ok_hasJust FH gI gD gN gA
  have bH := FH.binds (ps := ["thing", "names"]) fun _ _ _ _ _ _ us hl => match us, hl with | [_, _], _ => rfl
  refine F.ok scBadRow (fun vs H Q E h => by obtain ⟨r, as, ns, tbl, e, _⟩ := h; rw [e]; rfl) fun cdv A outer s H vs Q E hr hsp => ?_
  obtain ⟨r, as, ns, tbl, rfl, hrr, rows, tne, tsh, nne, nnd, nok, nsh, hq⟩ := hsp
  have nd := scBadRow.nd
  have hu := hu_of hr
  refine ⟨_, pss_cons (ps_if (PW.pt (pw_or (pt_not (pt_val (pe_call GL hr rfl gIL FL.kp bL .nil pass0 (pa_cons (pv 0) pa_nil)))) (pw_or1 (pt_cmpR op_eq (pe_callB call_len_seq rfl gN boot_len (pa_cons (pv 0) pa_nil)) pe_int (nomark _))))) (pss_one ps_never) pss_nil)
    (pss_cons (ps_for PassesOwn.never rfl (pi_enumS rfl gE (pa_cons (pv 0) pa_nil)) (pg_tup rfl (pgs_cons (pg_name (i := 1) nd rfl (Or.inl rfl)) (pgs_cons (pg_name (i := 2) nd rfl (Or.inr rfl)) pgs_nil)))
      (pss_cons (ps_if (PW.pt (pw_or (pt_not (pt_val (pe_callB (r := rIsi K) call_isi rfl gI boot_isi (pa_cons (pv 2) (pa_cons (pe_bltn (v := .ty "dict") rfl gD boot_dict' rfl) pa_nil)))))
          (pw_or (pt_cmpR op_eq (pe_callB call_lenD rfl gN boot_len (pa_cons (pv 2) pa_nil)) pe_int (nomark _))
          (pw_or1 (pt_not (pt_val (pe_callB (cr_all rfl) rfl gA boot_all' (pa_cons (pe_lock (pe_lc (own := [("name", 3)]) (tt := tYes) rfl nd (pi_keys (pv 2)) (blkOk_by (N := NB) (sc := defScope sBadRow) (by decide +kernel)) (fun _ _ _ _ _ => pg_name (i := 3) nd rfl (Or.inl rfl)) (fun _ _ _ _ _ => pts_nil)
            (fun _ _ _ _ _ => pe_call GI hr rfl gII FI.kp bI .nil pass0 (pa_cons (pe_dget hu (pv 2) (pv 3) (fun _ _ => rfl)) pa_nil)))) pa_nil)))))))) (pss_one ps_never) pss_nil)
      (pss_one (ps_if (PW.pt (pw_or (pt_not (pt_val (pe_callB (cr_all rfl) rfl gA boot_all' (pa_cons (pe_lock (pe_lc (own := [("name", 3)]) (tt := tYes) rfl nd (pi_keys (pv 2)) (blkOk_by (N := NB) (sc := defScope sBadRow) (by decide +kernel)) (fun _ _ _ _ _ => pg_name (i := 3) nd rfl (Or.inl rfl)) (fun _ _ _ _ _ => pts_nil)
            (fun _ _ _ _ _ => pe_call GN hr rfl gIN FN.kp bN .nil pass0 (pa_cons (pv 3) pa_nil)))) pa_nil))))
          (pw_or1 (pt_not (pt_val (pe_call GH hr rfl gHJ FH.kp bH .nil pass0 (pa_cons (pv 2) (pa_cons (pe_callTy (call_listD rfl) rfl gL boot_list' (pa_cons (pe_ix ix_list (pv 0) pe_int (fun _ _ => rfl)) pa_nil)) pa_nil)))))))) (pss_one ps_never) pss_nil))))
    (pss_one (ps_ret pe_non))), ?_⟩
  have las : as.length = tbl.length := Paired.length rows
  have pos : 0 < tbl.length := List.length_pos_iff.mpr tne
  have npos : 0 < ns.length := List.length_pos_iff.mpr nne
  refine ⟨_, rfl, r, _, rfl, .inl hrr, fun H1 k1 => ⟨_, rfl, iteF ?_⟩⟩
  refine ⟨_, rfl, r, _, rfl, .inl (SqL.of (k1 _ _ hrr)), rfl, _, rfl, ?_⟩
  rw [dec_int2, List.length_map, decide_eq_false (by omega : ¬ ((as.length : Nat) : Int) = 0)]
  refine iteF ?_
  refine ⟨_, rfl, enum_seq (.inl rfl) (fun i σ H' => Same H1 H' ∧ ∃ s1 s2 s3, σ = [some (.ref r), s1, s2, s3]) ⟨Same.refl _, _, _, _, rfl⟩ (fun i σ H' _ h => h.1 _ _ (k1 _ _ hrr)) ?_ ?_⟩
  · rintro i v σ H2 T ev ⟨s2, s1', s2', s3', rfl⟩ nT
    rw [List.getElem?_map] at ev
    obtain ⟨a, ea, rfl⟩ := Option.map_eq_some_iff.mp ev
    have sT := (k1.trans s2).trans (same_new (o := .tup [.int (i : Nat), .ref a]) nT)
    refine ⟨T, _, rfl, SqT.of upd_same, rfl, _, _, rfl, _, _, rfl, rfl, ?_⟩
    have s2T := s2.trans (same_new (o := .tup [.int (i : Nat), .ref a]) nT)
    generalize upd H2 T (.tup [.int (i : Nat), .ref a]) = H3 at sT s2T
    obtain ⟨vs, ev2, oa, lv⟩ := paired_get (rows.same sT) ea
    have ldk : (dk ns vs).length = ns.length := by
      unfold dk
      rw [List.length_map, List.length_zip]; omega
    refine ⟨_, rfl, _, _, _, _, true, rfl, .ty _, .base (.dK oa), kit_ty (by decide +kernel), _, rfl, iteF ?_⟩
    refine ⟨_, rfl, a, _, rfl, oa, rfl, _, rfl, ?_⟩
    rw [dec_int2, ldk, decide_eq_false (by omega : ¬ ((ns.length : Nat) : Int) = 0)]
    refine iteF ?_
    refine ⟨a, _, oa, trivial, fun od => ⟨_, rfl, a, od, rfl, .inl ⟨_, upd_same, lc_gen (bools ns.length) (by rw [bools_len]; omega) (fun j H' s lt => ⟨s _ _ upd_same, by rw [ldk]; rw [bools_len] at lt; exact lt⟩) (fun H' s => ⟨s _ _ upd_same, by rw [ldk, bools_len]; exact Nat.le_refl _⟩) ?_ ?_⟩⟩⟩
    · rintro j v y H4 H5 Cn Nn ey s4 ⟨rfl, k, w', ek, rfl⟩ yes
      obtain ⟨rfl, lt⟩ := bools_at ey
      obtain ⟨x, n, rfl, rfl, _, hv⟩ := dk_at ek nnd lv.symm
      refine ⟨rfl, ?_⟩
      exact ⟨_, rfl, _, rfl, a, _, rfl, .inl ⟨_, Sum.inr x, .inr ⟨_, s4 _ _ upd_same⟩, rfl, hv.symm⟩, n, rfl, yes H5 (Same.refl _)⟩
    · intro H4 D nD oD s4
      obtain ⟨b1, s34⟩ := lock_off oa s4
      have Da : D ≠ a := fun z => by rw [z, upd_same] at nD; cases nD
      rw [bools_map] at oD
      refine ⟨b1, D, _, rfl, SqL.of (by rw [upd_ne Da]; exact oD), _, rfl, ?_⟩
      rw [all_true]
      refine iteF ?_
      have oa4 := s34 _ _ oa
      have sH4 := sT.trans s34
      have s14 := s2T.trans s34
      generalize upd H4 a (.dK (dk ns vs)) = H5 at s34 oa4 sH4 s14
      refine ⟨a, _, oa4, trivial, fun od2 => ⟨_, rfl, a, od2, rfl, .inl ⟨_, upd_same, lc_gen (bools ns.length) (by rw [bools_len]; omega) (fun j H' s lt => ⟨s _ _ upd_same, by rw [ldk]; rw [bools_len] at lt; exact lt⟩) (fun H' s => ⟨s _ _ upd_same, by rw [ldk, bools_len]; exact Nat.le_refl _⟩) ?_ ?_⟩⟩⟩
      · rintro j v y H6 H7 Cn Nn ey s6 ⟨rfl, k, w', ek, rfl⟩ yes
        obtain ⟨rfl, lt⟩ := bools_at ey
        obtain ⟨x, n, rfl, rfl, ex, hv⟩ := dk_at ek nnd lv.symm
        refine ⟨rfl, ?_⟩
        exact ⟨_, rfl, x, rfl, nok x (List.mem_of_getElem? ex), fun H' s' => yes H' s'⟩
      · intro H6 D2 nD2 oD2 s6
        obtain ⟨b2, s56⟩ := lock_off oa4 s6
        have Da2 : D2 ≠ a := fun z => by rw [z, upd_same] at nD2; cases nD2
        rw [bools_map] at oD2
        refine ⟨b2, D2, _, rfl, SqL.of (by rw [upd_ne Da2]; exact oD2), _, rfl, ?_⟩
        rw [all_true]
        refine iteF ?_
        have oa6 := s56 _ _ oa4
        have sH6 := sH4.trans s56
        have s16 := s14.trans s56
        generalize upd H6 a (.dK (dk ns vs)) = H7 at oa6 sH6 s16
        obtain ⟨a0, ea0⟩ : ∃ a0, as[0]? = some a0 := ⟨as[0]'(by omega), List.getElem?_eq_getElem _⟩
        obtain ⟨vs0, ev0, oa0, lv0⟩ := paired_get (rows.same sH6) ea0
        have at0' : atI (as.map V.ref) ((0 : Nat) : Int) = some (.ref a0) := atI_nat (by rw [List.getElem?_map, ea0]; rfl)
        refine ⟨_, rfl, _, rfl, _, _, _, _, rfl, rfl, SqL.of (sH6 _ _ hrr), at0', a0, _, rfl, .inl oa0, fun q nq => ?_⟩
        have ekeys : ((dk ns vs0).map fun kv => kV kv.1) = ns.map V.str := by
          have z := congrArg (List.map kV) (dk_keys lv0.symm)
          rw [List.map_map, List.map_map] at z
          exact z
        rw [ekeys]
        have sq := same_new (o := .lst (ns.map V.str)) nq
        exact ⟨a, q, dk ns vs, ns, rfl, sq _ _ oa6, upd_same, dk_keys lv.symm, nsh, fun H' s' => ⟨_, rfl, iteF ⟨(s16.trans sq).trans s', _, _, _, rfl⟩⟩⟩
  · rintro σ H2 ⟨s2, s1', s2', s3', rfl⟩
    exact hq _ (k1.trans s2)
end
end L2.TB
namespace L2.TB
open PySem PySem.Spec PyProof.Rows
abbrev NI : List Str := ["self", "rows", "index", "row", "name"]
theorem scInit : FnScope NI ["self", "rows"] (defScope sInit) := ⟨rfl, rfl, rfl, by decide +kernel, rfl, by decide +kernel, by decide +kernel⟩
def spInit (C : Addr) : Sp := fun vs H Q _ => ∃ (p dx r : Addr) (as : List Addr) (ns : List Str) (tbl : List (List Int)), vs = [.ref p, .ref r] ∧ H p = some (.ins C dx []) ∧ H r = some (.lst (as.map V.ref)) ∧ DRows H ns as tbl ∧ tbl ≠ [] ∧ tbl.length < 1000 ∧ ns ≠ [] ∧ ns.Nodup ∧ (∀ x ∈ ns, NmOk x) ∧ ns.length < 1000 ∧
  ∀ H', TabAt H' C p ns tbl → (∀ b o, b ≠ p → H b = some o → H' b = some o) → Q .non H'
theorem qr_ : ¬ (("_questions" : Str) = "_rows") := by decide +kernel
theorem put_two (qa ra : Addr) : putF "_rows" (.ref ra) (putF "_questions" (.ref qa) []) = tabF qa ra := by
  show (if ("_questions" : Str) = "_rows" then _ else (("_questions" : Str), V.ref qa) :: putF "_rows" (.ref ra) []) = tabF qa ra
  rw [if_neg qr_]
  rfl
abbrev scRow : Scope := { kind := ScopeKind.function, names := [(Str.ofString ".0", NameKind.local), (Str.ofString "row", NameKind.cell), (Str.ofString "tuple", NameKind.globalImplicit), (Str.ofString "self", NameKind.cell)], isGenerator := false, isCoroutine := false }
abbrev rTupOf (K : PySem.W.Frag) : List V → Hp → VK → Prop := fun xs H Q => ∃ p ys, xs = [V.ref p] ∧ ((SqL K H p ys ∧ ∀ l, H l = none → Q (.ref l) (upd H l (.tup ys))) ∨ (SqT K H p ys ∧ Q (.ref p) H))
section
variable {P : Program} {w : World} {K : PySem.W.Frag} {mg : Str → Option Value} {base : Heap} {f C fB : Addr} {fd fdB : FuncData}
theorem ok_init (F : Fun K "__init__" "Table.__init__" sInit f fd) (T : TabC K C) (GB : FnOk P w K mg base CX0 2 fB fdB ["rows"] spBadRow) (FB : Fun K "_first_bad_row" "_first_bad_row" sBadRow fB fdB) (gB : mg "_first_bad_row" = some (.ref fB)) (gL : mg "list" = none) (gT : mg "tuple" = none) : FnOk P w K mg base CX0 3 f fd ["self", "rows"] (spInit C) := by
  have bB := FB.binds (ps := ["rows"]) fun _ _ _ _ _ _ us hl => match us, hl with | [_], _ => rfl
  refine F.ok scInit (fun vs H Q E h => by obtain ⟨p, dx, r, as, ns, tbl, e, _⟩ := h; rw [e]; rfl) fun cdv A outer s H vs Q E hr hsp => ?_
  obtain ⟨p, dx, r, as, ns, tbl, rfl, hp, hrr, rows, tne, tsh, nne, nnd, nok, nsh, hq⟩ := hsp
  have nd := scInit.nd
  have hu := hu_of hr
  refine ⟨_, pss_cons (ps_set (i := 2) nd rfl (Or.inl rfl) (pe_call GB hr rfl gB FB.kp bB .nil pass0 (pa_cons (pv 1) pa_nil)))
    (pss_cons (ps_if (pt_cmp (pc_notN (pv 2))) (pss_one ps_never) pss_nil)
    (pss_cons (ps_fld (pv 0) (pe_callTy (call_listD rfl) rfl gL boot_list' (pa_cons (pe_ix ix_list (pv 1) pe_int (fun _ _ => rfl)) pa_nil)) rfl)
    (pss_one (ps_fld (pv 0) (pe_lc (own := [("row", 3)]) (tt := tYes) (te := tCB (rTupOf K) (tCons (tLc (iList K (tFld K (tVar 0) "_questions")) (gName 4) tYes (tDGet (tVar 3) (tVar 4)) [4]) tNil)) rfl nd (pi_list (pv 1)) (blkOk_by (N := NI) (sc := defScope sInit) (by decide +kernel)) (fun _ _ _ _ _ => pg_name (i := 3) nd rfl (Or.inr rfl)) (fun _ _ _ _ _ => pts_nil)
      (fun _ _ _ _ _ => pe_callTy (r := rTupOf K) call_tuple_of rfl gT boot_tuple' (pa_cons (pe_lc (own := [("name", 4)]) (tt := tYes) (g := gName 4) (wi := iList K (tFld K (tVar 0) "_questions")) (te := tDGet (tVar 3) (tVar 4)) rfl nd (pi_list (pe_fld (pv 0) rfl)) (blkOk_by (N := NI) (sc := scRow) (by decide +kernel)) (fun _ _ _ _ _ => pg_name (i := 4) nd rfl (Or.inl rfl)) (fun _ _ _ _ _ => pts_nil)
        (fun _ _ _ _ _ => pe_dget hu (pv 3) (pv 4) (fun _ _ => rfl))) pa_nil))) rfl)))), ?_⟩
  have las : as.length = tbl.length := Paired.length rows
  have pos : 0 < tbl.length := List.length_pos_iff.mpr tne
  have npos : 0 < ns.length := List.length_pos_iff.mpr nne
  refine ⟨_, rfl, r, as, ns, tbl, rfl, hrr, rows, tne, tsh, nne, nnd, nok, nsh, fun H1 s1 => ?_⟩
  refine ⟨_, rfl, _, rfl, iteF ?_⟩
  obtain ⟨a0, ea0⟩ : ∃ a0, as[0]? = some a0 := ⟨as[0]'(by omega), List.getElem?_eq_getElem _⟩
  obtain ⟨vs0, ev0, oa0, lv0⟩ := paired_get (rows.same s1) ea0
  have at0' : atI (as.map V.ref) ((0 : Nat) : Int) = some (.ref a0) := atI_nat (by rw [List.getElem?_map, ea0]; rfl)
  have ekeys : ((dk ns vs0).map fun kv => kV kv.1) = ns.map V.str := by
    have z := congrArg (List.map kV) (dk_keys lv0.symm)
    rw [List.map_map, List.map_map] at z
    exact z
  refine ⟨_, rfl, _, _, _, _, rfl, rfl, SqL.of (s1 _ _ hrr), at0', a0, _, rfl, .inl oa0, fun qa nqa => ?_⟩
  rw [ekeys]
  have sq := same_new (o := .lst (ns.map V.str)) nqa
  have hp2 := sq _ _ (s1 _ _ hp)
  have oq2 : upd H1 qa (.lst (ns.map V.str)) qa = some (.lst (ns.map V.str)) := upd_same
  have s12 := s1.trans sq
  generalize upd H1 qa (.lst (ns.map V.str)) = H2 at sq hp2 oq2 s12
  refine ⟨_, rfl, p, C, dx, _, rfl, hp2, T.cl, T.nQ, by decide, ?_⟩
  have hpu : upd H2 p (.ins C dx (putF "_questions" (.ref qa) [])) p = some (.ins C dx (putF "_questions" (.ref qa) [])) := upd_same
  have s2p : ∀ b o, b ≠ p → H2 b = some o → upd H2 p (.ins C dx (putF "_questions" (.ref qa) [])) b = some o := fun b o nb e => by rw [upd_ne nb]; exact e
  generalize upd H2 p (.ins C dx (putF "_questions" (.ref qa) [])) = H4 at hpu s2p
  have rp : r ≠ p := ne_of hrr hp (by intro z; cases z)
  have qp : qa ≠ p := ne_of oq2 hp2 (by intro z; cases z)
  have or4 := s2p _ _ rp (s12 _ _ hrr)
  have oq4 := s2p _ _ qp oq2
  have rows4 : DRows H4 ns as tbl := Paired.mapP rows fun a vs h => ⟨s2p _ _ (ne_of h.1 hp (by intro z; cases z)) (s12 _ _ h.1), h.2⟩
  refine ⟨_, rfl, r, rfl, ⟨_, SqL.of or4⟩, fun D nD => ?_⟩
  refine lc_list (xs := as.map V.ref) (fun i H' => ∃ ps, H' D = some (.lst ((ps : List Addr).map V.ref)) ∧ Paired (fun q vs => H' q = some (.tup (vs.map V.int)) ∧ vs.length = ns.length) ps (tbl.take i) ∧ Same H4 H')
    ⟨[], upd_same, .nil, same_new nD⟩ (fun i H' _ h => SqL.of (h.choose_spec.2.2 _ _ or4)) ?_ ?_
  · rintro i v H5 ev ⟨ps, oD, prs, s5⟩
    rw [List.getElem?_map] at ev
    obtain ⟨a, ea, rfl⟩ := Option.map_eq_some_iff.mp ev
    obtain ⟨vs, evs, oa, lv⟩ := paired_get (rows4.same s5) ea
    have hi : i < tbl.length := (List.getElem?_eq_some_iff.mp evs).1
    have lps : ps.length = i := by rw [Paired.length prs, List.length_take]; omega
    refine ⟨rfl, ?_⟩
    refine ⟨_, rfl, p, C, dx, _, _, rfl, s5 _ _ hpu, T.cl, T.nQ, rfl, qa, rfl, ⟨_, SqL.of (s5 _ _ oq4)⟩, lc_gen (vs.map V.int) (by rw [List.length_map]; omega) (fun j H' s lt => ⟨ns.map V.str, _, SqL.of (s _ _ (s5 _ _ oq4)), List.getElem?_eq_getElem (by rw [List.length_map] at lt ⊢; omega)⟩) (fun H' s => ⟨ns.map V.str, SqL.of (s _ _ (s5 _ _ oq4)), by rw [List.length_map, List.length_map]; omega⟩) ?_ ?_⟩
    · rintro j x y H6 H7 Cn Nn ey s6 ⟨rfl, ex⟩ yes
      have ex := ex _ (SqL.of (s6 _ _ (s5 _ _ oq4)))
      rw [List.getElem?_map] at ey ex
      obtain ⟨n, en, rfl⟩ := Option.map_eq_some_iff.mp ey
      obtain ⟨z, ez, rfl⟩ := Option.map_eq_some_iff.mp ex
      have edk : (dk ns vs)[j]? = some (Sum.inr z, V.int n) := by
        unfold dk
        rw [List.getElem?_map, List.getElem?_zip_eq_some.mpr (show ns[j]? = some (z, n).1 ∧ vs[j]? = some (z, n).2 from ⟨ez, en⟩)]
        rfl
      obtain ⟨z', n', e1, e2, _, hv⟩ := dk_at edk nnd lv.symm
      obtain rfl := Sum.inr.inj e1
      obtain rfl := V.int.inj e2
      refine ⟨rfl, ?_⟩
      exact ⟨_, rfl, _, rfl, a, _, rfl, hv ▸ DGet.k (k := Sum.inr z) (s6 _ _ oa), yes H7 (Same.refl _)⟩
    · intro H6 l nl ol s6
      refine ⟨l, _, rfl, .inl ⟨SqL.of ol, fun t nt => ?_⟩⟩
      have st := same_new (o := .tup (vs.map V.int)) nt
      have oD6 := st _ _ (s6 _ _ oD)
      have tD : t ≠ D := fun z => by rw [z, s6 _ _ oD] at nt; cases nt
      refine ⟨_, oD6, (by rw [sizeLine_eq, List.length_map]; omega), ps ++ [t], by rw [upd_same]; simp, ?_, ?_⟩
      · have e1 : tbl.take (i + 1) = tbl.take i ++ [vs] := by rw [List.take_succ, evs]; rfl
        rw [e1]
        refine paired_snoc ⟨by rw [upd_ne tD, upd_same], lv⟩ (Paired.mapP prs fun q vs' h => ⟨?_, h.2⟩)
        rw [upd_ne (ne_of h.1 oD (by intro z; cases z))]
        exact st _ _ (s6 _ _ h.1)
      · intro b u e
        rw [upd_ne (ne_of_none e nD)]
        exact st _ _ (s6 _ _ (s5 _ _ e))
  · rintro H5 ⟨ps, oD, prs, s5⟩
    have et : tbl.take (as.map V.ref).length = tbl := List.take_of_length_le (by rw [List.length_map]; omega)
    rw [et] at prs
    refine ⟨_, rfl, p, C, dx, _, rfl, s5 _ _ hpu, T.cl, T.nR, by show 1 < 1000; decide, ?_⟩
    rw [put_two]
    have Dp : D ≠ p := fun z => by rw [z, hpu] at nD; cases nD
    have frame : ∀ b o, b ≠ p → H b = some o → upd H5 p (.ins C dx (tabF qa D)) b = some o := fun b o nb e => by
      rw [upd_ne nb]
      exact s5 _ _ (s2p _ _ nb (s12 _ _ e))
    refine hq _ ⟨dx, qa, D, upd_same, ?_, ps, ?_, Paired.mapP prs fun q vs h => ⟨?_, h.2⟩⟩ frame
    · rw [upd_ne qp]; exact s5 _ _ oq4
    · rw [upd_ne Dp]; exact oD
    · rw [upd_ne (ne_of h.1 (s5 _ _ hpu) (by intro z; cases z))]; exact h.1
end
end L2.TB
namespace L2.TB
open PySem PySem.Spec PyProof.Rows
/-! files of some questions: their names -/
def butS (xs : List Str) (y : Str) : List Str := xs.filter fun x => !decide (x = y)
theorem butS_nd {xs : List Str} (y : Str) (h : xs.Nodup) : (butS xs y).Nodup := h.filter _
theorem butS_sub {xs ns : List Str} (y : Str) (h : ∀ x ∈ xs, x ∈ ns) : ∀ x ∈ butS xs y, x ∈ ns := fun x hx => h x (List.mem_filter.mp hx).1
/-- the names at some places -/
def atP (names : List Str) (places : List Nat) : List Str := places.map fun p => names.getD p (Str.ofString "")
theorem SqA.ho {K : PySem.W.Frag} {H : Hp} {a : Addr} {xs : List V} (h : SqA K H a xs) : ∃ o, H a = some o ∧ (o = .lst xs ∨ o = .tup xs) := by
  rcases h with e | e
  · exact ⟨_, e, .inl rfl⟩
  · exact ⟨_, e, .inr rfl⟩
theorem dec_str (a b : Str) : decide (V.str a = V.str b) = decide (a = b) := by
  by_cases h : a = b
  · subst h; simp
  · rw [decide_eq_false h, decide_eq_false]
    intro z
    exact h (V.str.inj z)
end L2.TB
namespace L2.TB
open PySem PySem.Spec PyProof.Rows
/-! sets of places as numbers -/
theorem lc_genO {J : It} {g : TG} {tt : TT} {te : TE} {vs : List Nat} {σ : St} {H1 : Hp} {Q : Addr → Hp → Prop} (ys : List (Option V)) (short : ys.length < 1000000) (go : ∀ i H, Same H1 H → i < ys.length → J.go i H) (stop : ∀ H, Same H1 H → J.stop ys.length H)
    (turn : ∀ (i : Nat) (x : V) (o : Option V) (H H' : Hp) (C : V → Hp → Prop) (N : Hp → Prop), ys[i]? = some o → Same H1 H → J.yld i H x H' → (∀ y, o = some y → ∀ H4, Same H H4 → C y H4) → (o = none → ∀ H4, Same H H4 → N H4) →
      g x (wipe σ vs) H' fun σ2 H2 => wipe σ2 vs = wipe σ vs ∧ tt σ2 H2 fun b H3 => if b = true then te σ2 H3 C else N H3)
    (fin : ∀ H D, H1 D = none → H D = some (.lst (ys.filterMap id)) → Same H1 H → Q D H) : LcW J g tt te vs σ H1 Q := by
  intro D nD
  refine ⟨fun i m H => m = ys.length - i ∧ i ≤ ys.length ∧ H D = some (.lst ((ys.take i).filterMap id)) ∧ Same H1 H, ⟨_, rfl, Nat.zero_le _, upd_same, same_new nD⟩, ?_⟩
  rintro i m H ⟨rfl, le, oD, s1⟩
  by_cases lt : i < ys.length
  · refine .inr ⟨go i H s1 lt, fun H' => H' D = some (.lst ((ys.take (i + 1)).filterMap id)) ∧ Same H1 H', fun H' h => ⟨ys.length - (i + 1), by omega, rfl, lt, h⟩, fun x H' yl => ?_⟩
    have ey : ys[i]? = some ys[i] := List.getElem?_eq_getElem lt
    have et : ys.take (i + 1) = ys.take i ++ [ys[i]] := by rw [List.take_succ, ey]; rfl
    refine turn i x ys[i] H H' _ _ ey s1 yl (fun y e H4 s4 => ⟨_, s4 _ _ oD, ?_, ?_, ?_⟩) fun e H4 s4 => ⟨?_, s1.trans s4⟩
    · rw [sizeLine_eq]
      have := List.length_filterMap_le id (ys.take i)
      rw [List.length_take] at this
      omega
    · rw [upd_same, et, List.filterMap_append, e]; rfl
    · intro b u e'
      rw [upd_ne (ne_of_none e' nD)]
      exact s4 _ _ (s1 _ _ e')
    · rw [et, List.filterMap_append, e]
      simpa using s4 _ _ oD
  · obtain rfl : i = ys.length := by omega
    rw [List.take_length] at oD
    exact .inl ⟨stop H s1, fin H D nD oD s1⟩
theorem opt_list {α : Type} (f : α → Bool) (g : α → V) : ∀ l : List α, (l.map fun y => if f y = true then some (g y) else none).filterMap id = (l.filter f).map g
  | [] => rfl
  | a :: l => by
    have ih := opt_list f g l
    rw [List.map_cons, List.filter_cons]
    by_cases h : f a = true
    · rw [if_pos h, if_pos h, List.map_cons, ← ih]; rfl
    · rw [if_neg h, if_neg h, ← ih]; rfl
/-- whether a set has a place -/
def hasB (mask p : Nat) : Bool := decide (mask / 2 ^ p % 2 = 1)
/-- its places, ascending -/
def bitsL (many mask : Nat) : List Nat := (List.range many).filter (hasB mask)
def spBits : Sp := fun vs H Q _ => ∃ many mask : Nat, vs = [.int (many : Nat), .int (mask : Nat)] ∧ many ≤ 20 ∧ ∀ H' q, H q = none → H' q = some (.lst ((bitsL many mask).map fun p => V.int (p : Nat))) → Same H H' → Q (.ref q) H'
abbrev rOdd : R2 := fun x y H Q => ∃ n : Nat, x = .int (n : Int) ∧ y = .int 1 ∧ Q (.int ((n % 2 : Nat) : Int)) H
abbrev rShrN : R2 := fun x y H Q => ∃ (i : Int) (k : Nat), x = .int i ∧ y = .int (k : Int) ∧ Q (.int (i / 2 ^ k)) H
abbrev tBit (K : PySem.W.Frag) (i j : Nat) : TT := fun σ H Q => tOp rOdd (tOp rShrN (tVar i) (tVar j)) (tC (.int 1)) σ H fun x H' => ∃ k, TruV K x H' k ∧ Q k H'
abbrev NBi : List Str := ["many", "mask", "place"]
theorem scBits : FnScope NBi ["many", "mask"] (defScope sBits) := ⟨rfl, rfl, rfl, by decide +kernel, rfl, by decide +kernel, by decide +kernel⟩
section
variable {P : Program} {w : World} {K : PySem.W.Frag} {mg : Str → Option Value} {base : Heap} {f : Addr} {fd : FuncData}
theorem ok_bits (F : Fun K "_places" "_places" sBits f fd) (gR : mg "range" = none) : FnOk P w K mg base CX0 1 f fd ["many", "mask"] spBits := by
  refine F.ok scBits (fun vs H Q E h => by obtain ⟨many, mask, e, _⟩ := h; rw [e]; rfl) fun cdv A outer s H vs Q E hr hsp => ?_
  obtain ⟨many, mask, rfl, few, hq⟩ := hsp
  have nd := scBits.nd
  refine ⟨_, pss_one (ps_ret (pe_lc (own := [("place", 2)]) (g := gName 2) (te := tVar 2) (tt := tBit K 1 2) rfl nd (pi_range1 rfl gR (pa_cons (pv 0) pa_nil)) (blkOk_by (N := NBi) (sc := defScope sBits) (by decide +kernel)) (fun _ _ _ _ _ => pg_name (i := 2) nd rfl (Or.inl rfl))
      (fun _ _ _ _ _ => pts_one (pt_truth (pe_op (r := rOdd) op_odd (pe_op (r := rShrN) op_shrN (pv 1) (pv 2)) pe_int) (fun _ => rfl))) (fun _ _ _ _ _ => pv 2))), ?_⟩
  refine ⟨_, rfl, (many : Int), rfl, by omega, by omega, ?_⟩
  refine lc_genO ((List.range many).map fun p => if hasB mask p = true then some (V.int (p : Nat)) else none) (by rw [List.length_map, List.length_range]; omega) (fun i H' s lt => ?_) (fun H' s => ?_) ?_ ?_
  · rw [List.length_map, List.length_range] at lt
    show i < _
    simpa using lt
  · rw [List.length_map, List.length_range]
    show _ ≤ _
    simp
  · rintro i v o H2 H3 Cn Nn eo s2 ⟨rfl, rfl⟩ yes no
    have lt : i < many := by
      have := (List.getElem?_eq_some_iff.mp eo).1
      simpa using this
    rw [List.getElem?_map, List.getElem?_range lt] at eo
    obtain rfl := Option.some.inj eo
    refine ⟨rfl, ?_⟩
    have e : (mask : Int) / 2 ^ i = ((mask / 2 ^ i : Nat) : Int) := by simp
    refine ⟨_, rfl, _, rfl, (mask : Int), i, rfl, by simp, mask / 2 ^ i, by rw [e], rfl, hasB mask i, ?_, ?_⟩
    · show hasB mask i = (((mask / 2 ^ i % 2 : Nat) : Int) != 0)
      unfold hasB
      by_cases c : mask / 2 ^ i % 2 = 1
      · rw [decide_eq_true c, c]; rfl
      · have c0 : mask / 2 ^ i % 2 = 0 := by omega
        rw [decide_eq_false c, c0]; rfl
    · cases c : hasB mask i with
      | true => exact ⟨_, rfl, yes _ (by show (if hasB mask i = true then _ else _) = _; rw [if_pos c]; simp) _ (Same.refl _)⟩
      | false => exact no (by show (if hasB mask i = true then _ else _) = _; rw [if_neg (by rw [c]; simp)]) _ (Same.refl _)
  · intro H2 D nD oD s2
    rw [opt_list] at oD
    exact hq H2 D nD oD s2
end
end L2.TB
namespace L2.TB
open PySem PySem.Spec PyProof.Rows
/-! all files of some questions -/
/-- lists made anew, the thing of each turn in X -/
theorem lc_listsG {J : It} {g : TG} {tt : TT} {te : TE} {vs : List Nat} {σ : St} {H1 : Hp} {Q : Addr → Hp → Prop} (X : List (List V)) (short : X.length < 1000000) (go : ∀ i H, Same H1 H → i < X.length → J.go i H) (stop : ∀ H, Same H1 H → J.stop X.length H)
    (turn : ∀ (i : Nat) (x : V) (l : List V) (H H' : Hp) (C : V → Hp → Prop) (N : Hp → Prop), X[i]? = some l → Same H1 H → J.yld i H x H' → (∀ t H4, H t = none → H4 t = some (.lst l) → Same H H4 → C (.ref t) H4) → g x (wipe σ vs) H' fun σ2 H2 => wipe σ2 vs = wipe σ vs ∧ tt σ2 H2 fun b H3 => if b = true then te σ2 H3 C else N H3)
    (fin : ∀ H D ts, H1 D = none → H D = some (.lst ((ts : List Addr).map V.ref)) → Paired (fun t l => H t = some (.lst l)) ts X → Same H1 H → (∀ t ∈ ts, H1 t = none) → Q D H) : LcW J g tt te vs σ H1 Q := by
  intro D nD
  refine ⟨fun i m H => m = X.length - i ∧ i ≤ X.length ∧ ∃ ts : List Addr, H D = some (.lst (ts.map V.ref)) ∧ Paired (fun t l => t ≠ D ∧ H t = some (.lst l)) ts (X.take i) ∧ Same H1 H ∧ ∀ t ∈ ts, H1 t = none, ⟨_, rfl, Nat.zero_le _, [], upd_same, .nil, same_new nD, (fun t h => by cases h)⟩, ?_⟩
  rintro i m H ⟨rfl, le, ts, oD, ry, s1, fr⟩
  have lts : ts.length = i := by rw [Paired.length ry, List.length_take]; omega
  by_cases lt' : i < X.length
  · refine .inr ⟨go i H s1 lt', fun H' => ∃ ts : List Addr, H' D = some (.lst (ts.map V.ref)) ∧ Paired (fun t l => t ≠ D ∧ H' t = some (.lst l)) ts (X.take (i + 1)) ∧ Same H1 H' ∧ ∀ t ∈ ts, H1 t = none, fun H' h => ⟨X.length - (i + 1), by omega, rfl, lt', h⟩, fun x H' yl => ?_⟩
    have ex : X[i]? = some X[i] := List.getElem?_eq_getElem lt'
    refine turn i x X[i] H H' _ _ ex s1 yl fun t H4 nt ot s4 => ⟨_, s4 _ _ oD, by rw [sizeLine_eq, List.length_map]; omega, ts ++ [t], by rw [upd_same]; simp, ?_, ?_, fun u hu => (List.mem_append.mp hu).elim (fr u) (fun q => by rw [List.mem_singleton.mp q]; exact s1.free nt)⟩
    · have ne : t ≠ D := fun z => by rw [z, oD] at nt; cases nt
      have et : X.take (i + 1) = X.take i ++ [X[i]] := by rw [List.take_succ, ex]; rfl
      rw [et]
      exact paired_snoc ⟨ne, by rw [upd_ne ne]; exact ot⟩ (Paired.mapP ry fun u l h => ⟨h.1, by rw [upd_ne h.1]; exact s4 _ _ h.2⟩)
    · intro b u e
      rw [upd_ne (ne_of_none e nD)]
      exact s4 _ _ (s1 _ _ e)
  · obtain rfl : i = X.length := by omega
    rw [List.take_length] at ry
    exact .inl ⟨stop H s1, fin H D ts nD oD (Paired.mapP ry fun t l h => h.2) s1 fr⟩
/-- all files, as they are told -/
def filesL (names : List Str) : List (List Str) := names.foldl (fun acc n => acc ++ acc.map (· ++ [n])) [[]]
theorem files_snoc (names : List Str) (n : Str) : filesL (names ++ [n]) = filesL names ++ (filesL names).map (· ++ [n]) := by
  unfold filesL
  rw [List.foldl_append]
  rfl
theorem files_len : ∀ names : List Str, (filesL names).length = 2 ^ names.length := by
  intro names
  unfold filesL
  have z : ∀ (ns : List Str) (acc : List (List Str)), (ns.foldl (fun acc n => acc ++ acc.map (· ++ [n])) acc).length = acc.length * 2 ^ ns.length := by
    intro ns
    induction ns with
    | nil => intro acc; simp
    | cons n ns ih =>
      intro acc
      rw [List.foldl_cons, ih, List.length_append, List.length_map, List.length_cons, Nat.pow_succ]
      rw [Nat.mul_comm (2 ^ ns.length) 2, ← Nat.mul_assoc]
      congr 1
      omega
  rw [z]
  simp
theorem files_short (names : List Str) : ∀ l ∈ filesL names, l.length ≤ names.length := by
  have z : ∀ (ns : List Str) (acc : List (List Str)) (k : Nat), (∀ l ∈ acc, l.length ≤ k) → ∀ l ∈ ns.foldl (fun acc n => acc ++ acc.map (· ++ [n])) acc, l.length ≤ k + ns.length := by
    intro ns
    induction ns with
    | nil => intro acc k h l hl; exact h l hl
    | cons n ns ih =>
      intro acc k h l hl
      rw [List.foldl_cons] at hl
      have := ih _ (k + 1) (fun m hm => by
        rcases List.mem_append.mp hm with q | q
        · exact Nat.le_succ_of_le (h m q)
        · obtain ⟨y, hy, rfl⟩ := List.mem_map.mp q
          rw [List.length_append]
          have := h y hy
          show _ + 1 ≤ _
          omega) l hl
      rw [List.length_cons]
      omega
  intro l hl
  have := z names [[]] 0 (fun l hl => by rw [List.mem_singleton.mp hl]; exact Nat.le_refl _) l hl
  omega
theorem paired_unmap {α β γ : Type} {R : α → γ → Prop} {g : β → γ} : ∀ {ts : List α} {X : List β}, Paired R ts (X.map g) → Paired (fun t x => R t (g x)) ts X
  | _, [], h => by cases h; exact .nil
  | _, x :: X, h => by
    cases h with
    | cons a b => exact .cons a (paired_unmap b)
def spFiles : Sp := fun vs H Q _ => ∃ (a : Addr) (names : List Str), vs = [.ref a] ∧ H a = some (.lst (names.map V.str)) ∧ names.length ≤ 10 ∧
  ∀ H' q ps, H q = none → H' q = some (.lst ((ps : List Addr).map V.ref)) → Paired (fun p (l : List Str) => H' p = some (.lst (l.map V.str))) ps (filesL names) → Same H H' → (∀ p ∈ ps, H p = none) → Q (.ref q) H'
abbrev NFi : List Str := ["names", "found", "name", "file"]
theorem scFiles : FnScope NFi ["names"] (defScope sFiles) := ⟨rfl, rfl, rfl, by decide +kernel, rfl, by decide +kernel, by decide +kernel⟩
theorem paired_app {α β : Type} {R : α → β → Prop} : ∀ {xs xs' : List α} {ys ys' : List β}, Paired R xs ys → Paired R xs' ys' → Paired R (xs ++ xs') (ys ++ ys')
  | _, _, _, _, .nil, h => h
  | _, _, _, _, .cons h t, h' => .cons h (paired_app t h')
theorem paired_get' {α β : Type} {R : α → β → Prop} : ∀ {xs : List α} {ys : List β}, Paired R xs ys → ∀ {i : Nat} {y : β}, ys[i]? = some y → ∃ x, xs[i]? = some x ∧ R x y
  | _, _, .nil, i, y, h => by cases h
  | _, _, .cons r t, 0, y, h => by obtain rfl := Option.some.inj h; exact ⟨_, rfl, r⟩
  | _, _, .cons r t, i + 1, y, h => paired_get' t h
section
variable {P : Program} {w : World} {K : PySem.W.Frag} {mg : Str → Option Value} {base : Heap} {f : Addr} {fd : FuncData}
theorem ok_files (F : Fun K "_law_t_files" "_law_t_files" sFiles f fd) : FnOk P w K mg base CX0 1 f fd ["names"] spFiles := by
  refine F.ok scFiles (fun vs H Q E h => by obtain ⟨a, names, e, _⟩ := h; rw [e]; rfl) fun cdv A outer s H vs Q E hr hsp => ?_
  obtain ⟨a, names, rfl, ha, few, hq⟩ := hsp
  have nd := scFiles.nd
  refine ⟨_, pss_cons (ps_set (i := 1) nd rfl (Or.inl rfl) (pe_lst (pa_cons (pe_lst pa_nil) pa_nil)))
    (pss_cons (ps_for PassesOwn.never rfl (pi_list (pv 0)) (pg_name (i := 2) nd rfl (Or.inr rfl))
      (pss_one (ps_set (i := 1) nd rfl (Or.inl rfl) (pe_op op_cat (pv 1) (pe_lc (own := [("file", 3)]) (tt := tYes) (g := gName 3) (te := tOp rCat (tVar 3) (tLst (tCons (tVar 2) tNil))) rfl nd (pi_list (pv 1)) (blkOk_by (N := NFi) (sc := defScope sFiles) (by decide +kernel)) (fun _ _ _ _ _ => pg_name (i := 3) nd rfl (Or.inl rfl)) (fun _ _ _ _ _ => pts_nil)
        (fun _ _ _ _ _ => pe_op op_cat (pv 3) (pe_lst (pa_cons (pv 2) pa_nil))))))))
    (pss_one (ps_ret (pv 1)))), ?_⟩
  refine ⟨Nat.zero_le _, fun e0 n0 => ⟨(by rw [sizeLine_eq]; show 1 ≤ _; omega), fun q0 nq0 => ?_⟩⟩
  have k0 := same_new (o := .lst []) n0
  have o0 : upd H e0 (.lst []) e0 = some (.lst (([] : List Str).map V.str)) := upd_same
  generalize upd H e0 (.lst []) = H1 at k0 o0 nq0
  have k1 := same_new (o := .lst [V.ref e0]) nq0
  have o1 : upd H1 q0 (.lst [V.ref e0]) q0 = some (.lst (([e0] : List Addr).map V.ref)) := upd_same
  have k01 := k0.trans k1
  have o01 := k1 _ _ o0
  generalize upd H1 q0 (.lst [V.ref e0]) = H2 at k01 o1 o01
  refine ⟨_, rfl, a, rfl, ⟨_, SqL.of (k01 _ _ ha)⟩, for_list (xs := names.map V.str) (fun i σ H' => (∃ q ps, H q = none ∧ H' q = some (.lst ((ps : List Addr).map V.ref)) ∧ Paired (fun p (l : List Str) => H' p = some (.lst (l.map V.str))) ps (filesL (names.take i)) ∧ (∀ p ∈ ps, H p = none) ∧ ∃ s2 s3, σ = [some (.ref a), some (.ref q), s2, s3]) ∧ Same H H')
    ⟨⟨q0, [e0], k0.free nq0, o1, .cons o01 .nil, (fun p hp => by rw [List.mem_singleton.mp hp]; exact n0), _, _, rfl⟩, k01⟩ (fun i σ H' _ h => SqL.of (h.2 _ _ ha)) ?_ ?_⟩
  · rintro i v σ H3 ev ⟨⟨q, ps, nq, oq, pr, fr, s2, s3, rfl⟩, k3⟩
    rw [List.getElem?_map] at ev
    obtain ⟨n, en, rfl⟩ := Option.map_eq_some_iff.mp ev
    have hi : i < names.length := (List.getElem?_eq_some_iff.mp en).1
    have lf : (filesL (names.take i)).length ≤ 1024 := by
      rw [files_len, List.length_take]
      have : 2 ^ min i names.length ≤ 2 ^ 10 := Nat.pow_le_pow_right (by decide) (by omega)
      omega
    have lps : ps.length = (filesL (names.take i)).length := Paired.length pr
    refine ⟨_, rfl, _, rfl, q, rfl, ⟨_, SqL.of oq⟩, lc_listsG (((filesL (names.take i)).map (· ++ [n])).map fun l => l.map V.str) (by rw [List.length_map, List.length_map]; omega) (fun j H' s lt => ⟨_, _, SqL.of (s _ _ oq), List.getElem?_eq_getElem (by rw [List.length_map, List.length_map] at lt; rw [List.length_map, lps]; exact lt)⟩) (fun H' s => ⟨_, SqL.of (s _ _ oq), by rw [List.length_map, List.length_map, List.length_map, lps]; exact Nat.le_refl _⟩) ?_ ?_⟩
    · rintro j x l H4 H5 Cn Nn el s4 ⟨rfl, ex⟩ yes
      have ex := ex _ (SqL.of (s4 _ _ oq))
      rw [List.getElem?_map] at ex
      obtain ⟨p, ep, rfl⟩ := Option.map_eq_some_iff.mp ex
      obtain ⟨fl, ef, op⟩ := paired_get pr ep
      rw [List.getElem?_map, List.getElem?_map, ef] at el
      obtain rfl : (fl ++ [n]).map V.str = l := Option.some.inj el
      refine ⟨rfl, ?_⟩
      refine ⟨_, rfl, _, rfl, (by rw [sizeLine_eq]; show 1 ≤ _; omega), fun m nm => ?_⟩
      have km := same_new (o := .lst [V.str n]) nm
      have lfl : fl.length ≤ 20 := by
        have := files_short _ fl (List.mem_of_getElem? ef)
        rw [List.length_take] at this
        omega
      refine ⟨p, m, _, _, rfl, rfl, km _ _ (s4 _ _ op), upd_same, (by rw [sizeLine_eq, List.length_map]; show _ + 1 ≤ _; omega), fun t nt => ?_⟩
      refine yes t _ (km.free nt) ?_ (km.trans (same_new nt))
      rw [upd_same, List.map_append]
      rfl
    · intro H4 D ts nD oD prD k4 frD
      refine ⟨q, D, _, _, rfl, rfl, k4 _ _ oq, oD, (by rw [sizeLine_eq, List.length_map, List.length_map]; have := Paired.length prD; rw [List.length_map, List.length_map] at this; omega), fun r nr => ?_⟩
      rw [← List.map_append]
      have kr := same_new (o := .lst ((ps ++ ts).map V.ref)) nr
      refine ⟨⟨r, ps ++ ts, (k3.trans k4).free nr, upd_same, ?_, (fun p hp => (List.mem_append.mp hp).elim (fr p) fun h => k3.free (frD p h)), _, _, rfl⟩, (k3.trans k4).trans kr⟩
      have et : names.take (i + 1) = names.take i ++ [n] := by rw [List.take_succ, en]; rfl
      rw [et, files_snoc]
      refine paired_app (Paired.mapP pr fun p l h => kr _ _ (k4 _ _ h)) ?_
      exact Paired.mapP (paired_unmap prD) fun p l h => kr _ _ h
  · rintro σ H3 ⟨⟨q, ps, nq, oq, pr, fr, s2, s3, rfl⟩, k3⟩
    have et : names.take (names.map V.str).length = names := List.take_of_length_le (by rw [List.length_map]; omega)
    rw [et] at pr
    exact ⟨_, rfl, hq H3 q ps nq oq pr k3 fr⟩
end
end L2.TB
namespace L2.TB
open PySem PySem.Spec PyProof.Rows
/-! the law's looks at files -/
def spPlacesF : Sp := fun vs H Q _ => ∃ (a b : Addr) (names file : List Str), vs = [.ref a, .ref b] ∧ H a = some (.lst (names.map V.str)) ∧ H b = some (.lst (file.map V.str)) ∧ (∀ x ∈ file, x ∈ names) ∧ file.length < 1000 ∧
  ∀ H' q, H q = none → H' q = some (.lst (file.map fun x => V.int (idx names x : Nat))) → Same H H' → Q (.ref q) H'
abbrev NPf : List Str := ["names", "file", "name"]
theorem scPlacesF : FnScope NPf ["names", "file"] (defScope sPlaces2) := ⟨rfl, rfl, rfl, by decide +kernel, rfl, by decide +kernel, by decide +kernel⟩
/-- whether a file stands in another one, not being it -/
def lessF (fl ot : List Str) : Bool := decide (fl.length < ot.length) && fl.all fun x => decide (x ∈ ot)
def spLess : Sp := fun vs H Q _ => ∃ (a b : Addr) (fl ot : List Str), vs = [.ref a, .ref b] ∧ H a = some (.lst (fl.map V.str)) ∧ H b = some (.lst (ot.map V.str)) ∧ fl.length < 1000 ∧ ∀ H', Same H H' → Q (.bl (lessF fl ot)) H'
abbrev NLs : List Str := ["file", "other", "name"]
theorem scLess : FnScope NLs ["file", "other"] (defScope sLess) := ⟨rfl, rfl, rfl, by decide +kernel, rfl, by decide +kernel, by decide +kernel⟩
/-- whether a file has a question that a secret lacks -/
def meetsF (fl se : List Str) : Bool := fl.any fun x => !decide (x ∈ se)
theorem boot_any' : bootBuiltins "any" = some (.builtin "any") := by decide +kernel
section
variable {P : Program} {w : World} {K : PySem.W.Frag} {mg : Str → Option Value} {base : Heap} {f : Addr} {fd : FuncData}
theorem ok_placesF (F : Fun K "_law_t_places" "_law_t_places" sPlaces2 f fd) : FnOk P w K mg base CX0 1 f fd ["names", "file"] spPlacesF := by
  refine F.ok scPlacesF (fun vs H Q E h => by obtain ⟨a, b, names, file, e, _⟩ := h; rw [e]; rfl) fun cdv A outer s H vs Q E hr hsp => ?_
  obtain ⟨a, b, names, file, rfl, ha, hb, sub, short, hq⟩ := hsp
  have nd := scPlacesF.nd
  refine ⟨_, pss_one (ps_ret (pe_lc (own := [("name", 2)]) (tt := tYes) (te := tBM K "list" (rIndex K) (tVar 0) (tCons (tVar 2) tNil)) rfl nd (pi_seq (pv 1)) (blkOk_by (N := NPf) (sc := defScope sPlaces2) (by decide +kernel))
    (fun _ _ _ _ _ => pg_name (i := 2) nd rfl (Or.inl rfl)) (fun _ _ _ _ _ => pts_nil) (fun _ _ _ _ _ => pe_bm PySem.F.plainAttrs_list PySem.F.slot_list_index PySem.F.type_list_index mt_index (pv 0) (pa_cons (pv 2) pa_nil)))), ?_⟩
  refine ⟨_, rfl, lc_seq (.inl rfl) hb (by rw [List.length_map]; omega) (fun _ => true) (fun v => match v with | .str x => .int (idx names x : Nat) | _ => .non) ?_ ?_⟩
  · rintro i v H2 D N ev s2 yes no
    rw [List.getElem?_map] at ev
    obtain ⟨x, ex, rfl⟩ := Option.map_eq_some_iff.mp ev
    have xin : x ∈ names := sub x (List.mem_of_getElem? ex)
    obtain ⟨i1, i2⟩ := idx_at xin
    refine ⟨rfl, ?_⟩
    refine ⟨_, rfl, .inl ⟨rfl, _, SqL.of (s2 _ _ ha)⟩, _, rfl, ?_⟩
    exact ⟨a, _, .str x, idx names x, .str x, rfl, rfl, SqL.of (s2 _ _ ha), rfl, flat_strs names, i1, by rw [str_inj]; simp, i2, yes rfl H2 (Same.refl _)⟩
  · intro H2 q nq oq s2
    refine hq H2 q nq ?_ s2
    rw [oq, List.filter_eq_self.mpr (fun _ _ => rfl), List.map_map]
    rfl
theorem ok_less (F : Fun K "_law_t_less" "_law_t_less" sLess f fd) (gN : mg "len" = none) (gA : mg "all" = none) : FnOk P w K mg base CX0 1 f fd ["file", "other"] spLess := by
  refine F.ok scLess (fun vs H Q E h => by obtain ⟨a, b, fl, ot, e, _⟩ := h; rw [e]; rfl) fun cdv A outer s H vs Q E hr hsp => ?_
  obtain ⟨a, b, fl, ot, rfl, ha, hb, short, hq⟩ := hsp
  have nd := scLess.nd
  refine ⟨_, pss_one (ps_ret (pe_and (pe_cmpR op_lt (pe_callB call_len_seq rfl gN boot_len (pa_cons (pv 0) pa_nil)) (pe_callB call_len_seq rfl gN boot_len (pa_cons (pv 1) pa_nil)) (nomark _))
    (pe_one (pe_callB (cr_all rfl) rfl gA boot_all' (pa_cons (pe_lc (own := [("name", 2)]) (tt := tYes) (g := gName 2) (te := tOp (rIn K false) (tVar 2) (tVar 1)) rfl nd (pi_list (pv 0)) (blkOk_by (N := NLs) (sc := defScope sLess) (by decide +kernel)) (fun _ _ _ _ _ => pg_name (i := 2) nd rfl (Or.inl rfl)) (fun _ _ _ _ _ => pts_nil)
      (fun _ _ _ _ _ => pe_cmpR op_in_seq (pv 2) (pv 1) rfl)) pa_nil))))), ?_⟩
  refine ⟨_, rfl, a, _, rfl, .inl (SqL.of ha), _, rfl, b, _, rfl, .inl (SqL.of hb), _, _, rfl, rfl, _, rfl, ?_⟩
  have hq' := hq
  unfold lessF at hq
  by_cases c : fl.length < ot.length
  · rw [decide_eq_true (by rw [List.length_map, List.length_map]; omega)]
    rw [decide_eq_true c] at hq
    refine iteT ⟨_, rfl, a, rfl, ⟨_, SqL.of ha⟩, lc_gen ((fl.map fun x => decide (x ∈ ot)).map V.bl) (by rw [List.length_map, List.length_map]; omega) (fun i H' s lt => ⟨_, _, SqL.of (s _ _ ha), List.getElem?_eq_getElem (by rw [List.length_map]; rw [List.length_map, List.length_map] at lt; exact lt)⟩) (fun H' s => ⟨_, SqL.of (s _ _ ha), by rw [List.length_map, List.length_map, List.length_map]; exact Nat.le_refl _⟩) ?_ ?_⟩
    · rintro i v y H2 H3 Cn Nn ey s2 ⟨rfl, ev⟩ yes
      have ev := ev _ (SqL.of (s2 _ _ ha))
      rw [List.getElem?_map] at ev
      obtain ⟨x, ex, rfl⟩ := Option.map_eq_some_iff.mp ev
      rw [List.getElem?_map, List.getElem?_map, ex] at ey
      obtain rfl : V.bl (decide (x ∈ ot)) = y := Option.some.inj ey
      refine ⟨rfl, ?_⟩
      refine ⟨_, rfl, _, rfl, b, _, rfl, .inl (SqL.of (s2 _ _ hb)), rfl, flat_strs _, ?_⟩
      rw [inV_strs]
      exact yes _ (Same.refl _)
    · intro H2 D nD oD s2
      refine ⟨D, _, rfl, SqL.of oD, ?_⟩
      have e : (fl.map fun x => decide (x ∈ ot)).all id = fl.all fun x => decide (x ∈ ot) := by rw [List.all_map]; rfl
      rw [e]
      exact hq H2 s2
  · rw [decide_eq_false (by rw [List.length_map, List.length_map]; omega)]
    rw [decide_eq_false c] at hq
    exact iteF (hq _ (Same.refl _))
end
end L2.TB
namespace L2.TB
open PySem PySem.Spec PyProof.Rows
/-! the law's own look at pairs of rows -/
theorem ints_shape : ∀ ks : List Int, PyData.canLayAll0 (ks.map PyData.int) = true ∧ PyData.depthAll (ks.map PyData.int) = 0
  | [] => ⟨by simp [PyData.canLayAll0], by simp [PyData.depthAll]⟩
  | b :: bs => by
    obtain ⟨h1, h2⟩ := ints_shape bs
    exact ⟨by simp [PyData.canLayAll0, PyData.canLay0, h1], by simp [PyData.depthAll, PyData.depth, h2]⟩
theorem tup_shaped (ks : List Int) : SeqAt.shaped (.tuple (ks.map PyData.int)) = true := by
  obtain ⟨h1, h2⟩ := ints_shape ks
  unfold SeqAt.shaped
  simp [PyData.canLay0, PyData.depth, h1, h2]
theorem tup_eqvAll : ∀ a b : List Int, PyData.eqvAll (a.map PyData.int) (b.map PyData.int) = decide (a = b)
  | [], [] => by simp [PyData.eqvAll]
  | [], _ :: _ => by simp [PyData.eqvAll]
  | _ :: _, [] => by simp [PyData.eqvAll]
  | x :: a, y :: b => by
    rw [List.map_cons, List.map_cons, PyData.eqvAll, tup_eqvAll a b, PyData.eqv]
    by_cases h1 : x = y
    · by_cases h2 : a = b <;> simp [h1, h2]
    · simp [h1]
theorem tup_eqv (a b : List Int) : PyData.eqv (.tuple (a.map PyData.int)) (.tuple (b.map PyData.int)) = decide (a = b) := by rw [PyData.eqv, tup_eqvAll]
theorem dk_av {ns : List Str} {vs : List Int} {x : Str} (nd : ns.Nodup) (hl : vs.length = ns.length) (xin : x ∈ ns) : valV (dk ns vs) (Sum.inr x) = some (.int (av ns vs x)) := by
  have lt : idx ns x < ns.length := List.idxOf_lt_length_of_mem xin
  have e1 : ns[idx ns x]? = some x := by
    rw [List.getElem?_eq_getElem lt]
    exact congrArg some (List.getElem_idxOf lt)
  have e2 : vs[idx ns x]? = some (av ns vs x) := by
    unfold av
    rw [List.getD_eq_getElem?_getD, List.getElem?_eq_getElem (by omega)]
    rfl
  have edk : (dk ns vs)[idx ns x]? = some (Sum.inr x, V.int (av ns vs x)) := by
    unfold dk
    rw [List.getElem?_map, List.getElem?_zip_eq_some.mpr (show ns[idx ns x]? = some (x, av ns vs x).1 ∧ vs[idx ns x]? = some (x, av ns vs x).2 from ⟨e1, e2⟩)]
    rfl
  obtain ⟨z', n', q1, q2, _, hv⟩ := dk_at edk nd hl.symm
  obtain rfl := Sum.inr.inj q1
  obtain rfl := V.int.inj q2
  exact hv
theorem rd_same {H H' : Hp} {d : Addr} {u : HO} (h : Rd H d u) (s : Same H H') : Rd H' d u := h.imp (s _ _) fun ⟨o, e⟩ => ⟨o, s _ _ e⟩
theorem dget_r {H : Hp} {a : Addr} {kvs : List (Key × V)} {k : Key} (e : Rd H a (.dK kvs)) : DGet H a (kV k) (valV kvs k) := .inl ⟨kvs, k, e, rfl, rfl⟩
/-- rows that are read, one of them perhaps being walked -/
def RRows (H : Hp) (ns : List Str) : List Addr → List (List Int) → Prop := Paired fun a vs => Rd H a (.dK (dk ns vs)) ∧ vs.length = ns.length
theorem RRows.same {H H' : Hp} {ns : List Str} {as : List Addr} {tbl : List (List Int)} (r : RRows H ns as tbl) (s : Same H H') : RRows H' ns as tbl := Paired.mapP r fun a vs h => ⟨rd_same h.1 s, h.2⟩
theorem DRows.rd {H : Hp} {ns : List Str} {as : List Addr} {tbl : List (List Int)} (r : DRows H ns as tbl) : RRows H ns as tbl := Paired.mapP r fun a vs h => ⟨.inl h.1, h.2⟩
def spKey (K : PySem.W.Frag) : Sp := fun vs H Q _ => ∃ (a c : Addr) (ns known : List Str) (us : List Int), vs = [.ref a, .ref c] ∧ Rd H a (.dK (dk ns us)) ∧ us.length = ns.length ∧ ns.Nodup ∧ SqA K H c (known.map V.str) ∧ (∀ x ∈ known, x ∈ ns) ∧ known.length < 1000 ∧
  ∀ H' t, H t = none → H' t = some (.tup ((keyR ns known us).map V.int)) → Same H H' → Q (.ref t) H'
structure Told (K : PySem.W.Frag) (H : Hp) (r c : Addr) (as : List Addr) (ns known : List Str) (tbl : List (List Int)) : Prop where
  r : H r = some (.lst (as.map V.ref))
  rows : RRows H ns as tbl
  k : SqA K H c (known.map V.str)
  sub : ∀ x ∈ known, x ∈ ns
  short : known.length < 1000
  ndn : ns.Nodup
theorem Told.same {K : PySem.W.Frag} {H H' : Hp} {r c : Addr} {as : List Addr} {ns known : List Str} {tbl : List (List Int)} (h : Told K H r c as ns known tbl) (s : Same H H') : Told K H' r c as ns known tbl :=
  ⟨s _ _ h.r, h.rows.same s, h.k.same s, h.sub, h.short, h.ndn⟩
def spTells (K : PySem.W.Frag) : Sp := fun vs H Q _ => ∃ (r c : Addr) (as : List Addr) (ns known : List Str) (x : Str) (tbl : List (List Int)), vs = [.ref r, .ref c, .str x] ∧ Told K H r c as ns known tbl ∧ x ∈ ns ∧ ∀ H', Same H H' → Q (.bl (decide (Tells ns tbl known x))) H'
abbrev NK : List Str := ["row", "known", "name"]
theorem scKey : FnScope NK ["row", "known"] (defScope sKey) := ⟨rfl, rfl, rfl, by decide +kernel, rfl, by decide +kernel, by decide +kernel⟩
abbrev NTl : List Str := ["rows", "known", "asked", "one", "other"]
theorem scTells : FnScope NTl ["rows", "known", "asked"] (defScope sTells) := ⟨rfl, rfl, rfl, by decide +kernel, rfl, by decide +kernel, by decide +kernel⟩
section
variable {P : Program} {w : World} {K : PySem.W.Frag} {mg : Str → Option Value} {base : Heap} {f fK : Addr} {fd fdK : FuncData}
theorem ok_key (F : Fun K "_law_t_key" "_law_t_key" sKey f fd) (gT : mg "tuple" = none) : FnOk P w K mg base CX0 1 f fd ["row", "known"] (spKey K) := by
  refine F.ok scKey (fun vs H Q E h => by obtain ⟨a, c, ns, known, us, e, _⟩ := h; rw [e]; rfl) fun cdv A outer s H vs Q E hr hsp => ?_
  obtain ⟨a, c, ns, known, us, rfl, ha, hl, ndn, hc, sub, short, hq⟩ := hsp
  have nd := scKey.nd
  have hu := hu_of hr
  refine ⟨_, pss_one (ps_ret (pe_callTy (r := rTupOf K) call_tuple_of rfl gT boot_tuple' (pa_cons (pe_lc (own := [("name", 2)]) (tt := tYes) rfl nd (pi_seq (pv 1)) (blkOk_by (N := NK) (sc := defScope sKey) (by decide +kernel)) (fun _ _ _ _ _ => pg_name (i := 2) nd rfl (Or.inl rfl)) (fun _ _ _ _ _ => pts_nil)
    (fun _ _ _ _ _ => pe_dget hu (pv 0) (pv 2) (fun _ _ => rfl))) pa_nil))), ?_⟩
  obtain ⟨o, ho, ko⟩ := hc.ho
  refine ⟨_, rfl, lc_seq ko ho (by rw [List.length_map]; omega) (fun _ => true) (fun v => match v with | .str x => .int (av ns us x) | _ => .non) ?_ ?_⟩
  · rintro i v H2 Cn Nn ev s2 yes no
    rw [List.getElem?_map] at ev
    obtain ⟨x, ex, rfl⟩ := Option.map_eq_some_iff.mp ev
    have xin : x ∈ ns := sub x (List.mem_of_getElem? ex)
    refine ⟨rfl, ?_⟩
    exact ⟨_, rfl, _, rfl, a, _, rfl, dk_av ndn hl xin ▸ dget_r (k := Sum.inr x) (rd_same ha s2), yes rfl H2 (Same.refl _)⟩
  · intro H2 D nD oD s2
    have e : ((known.map V.str).filter fun _ => true).map (fun v => match v with | .str x => V.int (av ns us x) | _ => .non) = (keyR ns known us).map V.int := by
      rw [List.filter_eq_self.mpr (fun _ _ => rfl), List.map_map]
      unfold keyR
      rw [List.map_map]
      rfl
    rw [e] at oD
    exact ⟨D, _, rfl, .inl ⟨SqL.of oD, fun t nt => hq _ t (s2.free nt) upd_same (s2.trans (same_new nt))⟩⟩
theorem ok_tells (F : Fun K "_law_t_tells" "_law_t_tells" sTells f fd) (FK : Fun K "_law_t_key" "_law_t_key" sKey fK fdK) (gK : mg "_law_t_key" = some (.ref fK)) (gT : mg "tuple" = none) : FnOk P w K mg base CX0 2 f fd ["rows", "known", "asked"] (spTells K) := by
  have G : FnOk P w K mg base CX0 1 fK fdK ["row", "known"] (spKey K) := ok_key FK gT
  have b := FK.binds (ps := ["row", "known"]) fun _ _ _ _ _ _ us hl => match us, hl with | [_, _], _ => rfl
  refine F.ok scTells (fun vs H Q E h => by obtain ⟨r, c, as, ns, known, x, tbl, e, _⟩ := h; rw [e]; rfl) fun cdv A outer s H vs Q E hr hsp => ?_
  obtain ⟨r, c, as, ns, known, x, tbl, rfl, T, xin, hq⟩ := hsp
  have nd := scTells.nd
  have hu := hu_of hr
  have hu64 := hr.units
  refine ⟨_, pss_cons (ps_for PassesOwn.never rfl (pi_list (pv 0)) (pg_name (i := 3) nd rfl (Or.inl rfl))
      (pss_one (ps_for PassesOwn.never rfl (pi_list (pv 0)) (pg_name (i := 4) nd rfl (Or.inl rfl))
        (pss_one (ps_if (PW.pt (pw_and (pt_cmpR (op_eqD hu64) (pe_call G hr rfl gK FK.kp b .nil pass0 (pa_cons (pv 3) (pa_cons (pv 1) pa_nil))) (pe_call G hr rfl gK FK.kp b .nil pass0 (pa_cons (pv 4) (pa_cons (pv 1) pa_nil))) (nomark _))
          (pw_and1 (pt_cmpR op_ne (pe_dget hu (pv 3) (pv 2) (fun _ _ => rfl)) (pe_dget hu (pv 4) (pv 2) (fun _ _ => rfl)) (nomark _))))) (pss_one (ps_ret pe_bl)) pss_nil)))))
    (pss_one (ps_ret pe_bl)), ?_⟩
  have las : as.length = tbl.length := Paired.length T.rows
  have lm : (as.map V.ref).length = tbl.length := by rw [List.length_map, las]
  refine ⟨_, rfl, r, rfl, ⟨_, SqL.of T.r⟩, for_list (xs := as.map V.ref) (fun i σ H' => Same H H' ∧ (∃ s3 s4, σ = [some (.ref r), some (.ref c), some (.str x), s3, s4]) ∧ ∀ u ∈ tbl.take i, ∀ v ∈ tbl, keyR ns known u = keyR ns known v → av ns u x = av ns v x)
    ⟨Same.refl _, ⟨_, _, rfl⟩, fun u hu => by simp at hu⟩ (fun i σ H' _ h => SqL.of (h.1 _ _ T.r)) ?_ ?_⟩
  · rintro i v σ H2 ev ⟨s2, ⟨s3', s4', rfl⟩, all⟩
    rw [List.getElem?_map] at ev
    obtain ⟨a, ea, rfl⟩ := Option.map_eq_some_iff.mp ev
    obtain ⟨u, eu, oa, lu⟩ := paired_get T.rows ea
    have uin : u ∈ tbl := List.mem_of_getElem? eu
    refine ⟨_, rfl, r, rfl, ⟨_, SqL.of (s2 _ _ T.r)⟩, for_list (xs := as.map V.ref) (fun j σ H' => Same H H' ∧ (∃ s4, σ = [some (.ref r), some (.ref c), some (.str x), some (.ref a), s4]) ∧ ∀ v ∈ tbl.take j, keyR ns known u = keyR ns known v → av ns u x = av ns v x)
      ⟨s2, ⟨_, rfl⟩, fun v hv => by simp at hv⟩ (fun i σ H' _ h => SqL.of (h.1 _ _ T.r)) ?_ ?_⟩
    · rintro j w' σ H3 ew ⟨s3, ⟨s4, rfl⟩, allj⟩
      rw [List.getElem?_map] at ew
      obtain ⟨a', ea', rfl⟩ := Option.map_eq_some_iff.mp ew
      obtain ⟨v, ev2, oa', lv⟩ := paired_get T.rows ea'
      have vin : v ∈ tbl := List.mem_of_getElem? ev2
      have e1 : tbl.take (j + 1) = tbl.take j ++ [v] := by rw [List.take_succ, ev2]; rfl
      refine ⟨_, rfl, _, rfl, a, c, ns, known, u, rfl, rd_same oa s3, lu, T.ndn, T.k.same s3, T.sub, T.short, fun H4 t4 n4 o4 s4 => ?_⟩
      have s34 := s3.trans s4
      refine ⟨_, rfl, _, rfl, a', c, ns, known, v, rfl, rd_same oa' s34, lv, T.ndn, T.k.same s34, T.sub, T.short, fun H5 t5 n5 o5 s5 => ?_⟩
      have s35 := s34.trans s5
      refine ⟨_, _, .tup (SqT.of (s5 _ _ o4)) (dp_ints _), .tup (SqT.of o5) (dp_ints _), tup_shaped _, tup_shaped _, _, rfl, ?_⟩
      rw [tup_eqv]
      have step : (keyR ns known u = keyR ns known v → av ns u x = av ns v x) → ∀ v ∈ tbl.take (j + 1), keyR ns known u = keyR ns known v → av ns u x = av ns v x := fun z v' hv' => by
        rw [e1] at hv'
        rcases List.mem_append.mp hv' with q | q
        · exact allj v' q
        · rw [List.mem_singleton.mp q]; exact z
      by_cases ek : keyR ns known u = keyR ns known v
      · rw [decide_eq_true ek]
        refine iteT ⟨_, rfl, _, rfl, a, _, rfl, dk_av T.ndn lu xin ▸ dget_r (k := Sum.inr x) (rd_same oa s35), _, rfl, _, rfl, a', _, rfl, dk_av T.ndn lv xin ▸ dget_r (k := Sum.inr x) (rd_same oa' s35), rfl, _, rfl, ?_⟩
        rw [dec_int2]
        by_cases ea : av ns u x = av ns v x
        · rw [decide_eq_true ea]
          exact iteF ⟨s35, ⟨_, rfl⟩, step fun _ => ea⟩
        · rw [decide_eq_false ea]
          refine iteT ?_
          have z := hq H5 s35
          rw [decide_eq_false (fun T' : Tells ns tbl known x => ea (T' u uin v vin ek))] at z
          exact z
      · rw [decide_eq_false ek]
        exact iteF (iteF ⟨s35, ⟨_, rfl⟩, step fun z => absurd z ek⟩)
    · rintro σ H3 ⟨s3, ⟨s4, rfl⟩, allj⟩
      have et : tbl.take (as.map V.ref).length = tbl := List.take_of_length_le (by omega)
      rw [et] at allj
      have e1 : tbl.take (i + 1) = tbl.take i ++ [u] := by rw [List.take_succ, eu]; rfl
      refine ⟨s3, ⟨_, _, rfl⟩, fun u' hu' => ?_⟩
      rw [e1] at hu'
      rcases List.mem_append.mp hu' with q | q
      · exact all u' q
      · rw [List.mem_singleton.mp q]; exact allj
  · rintro σ H2 ⟨s2, ⟨s3', s4', rfl⟩, all⟩
    have et : tbl.take (as.map V.ref).length = tbl := List.take_of_length_le (by omega)
    rw [et] at all
    have z := hq H2 s2
    rw [decide_eq_true (show Tells ns tbl known x from all)] at z
    exact z
end
end L2.TB
namespace L2.TB
open PySem PySem.Spec PyProof.Rows PySem.W
/-! sorted of things that read as data, of one kind -/
/-- items and their data -/
def rSortedD (K : PySem.W.Frag) : List V → Hp → VK → Prop := fun vs H Q => ∃ (a : Addr) (ps : List (V × PyData)), vs = [V.ref a] ∧ SqL K H a (ps.map (·.1)) ∧ (∀ p ∈ ps, Dp K H p.1 p.2 ∧ p.2.depth ≤ 10) ∧ AllAlike (ps.map (·.2)) ∧ Sortable (ps.map (·.2)) ∧ ps.length ≤ sizeLine ∧
  ∀ q, H q = none → Q (.ref q) (upd H q (.lst ((ps.mergeSort (dataLe false (·.2))).map (·.1))))
theorem each_vals : ∀ {ps : List (V × PyData)} {us : List Value}, Vals (ps.map (·.1)) us → EachIs (fun v (b : V × PyData) => RelV b.1 v) us ps
  | [], _, .nil => .nil
  | p :: ps, _, .cons r t => .cons r (each_vals t)
theorem vals_each : ∀ {ps : List (V × PyData)} {us : List Value}, EachIs (fun v (b : V × PyData) => RelV b.1 v) us ps → Vals (ps.map (·.1)) us
  | [], _, .nil => .nil
  | p :: ps, _, .cons r t => .cons r (vals_each t)
theorem each_reads {X : Cx} {pins : List (Addr × Obj)} {σ : St} {H : Hp} {s : Shared} (I : Inv X pins σ H s) : ∀ {ps : List (V × PyData)} {us : List Value}, (∀ p ∈ ps, Dp X.K H p.1 p.2 ∧ p.2.depth ≤ 10) → Vals (ps.map (·.1)) us → EachIs (fun v (b : V × PyData) => ∃ as, Reads s.heap v b.2 as) us ps
  | [], _, _, .nil => .nil
  | p :: ps, _, h, .cons r t => .cons (Dp.reads I p.2 p.1 _ (h p List.mem_cons_self).1 r) (each_reads I (fun q hq => h q (List.mem_cons_of_mem _ hq)) t)
theorem cr_sortedD {X : Cx} (hu : X.A.units + 64 < cLine) : CallR X (.builtin "sorted") (rSortedD X.K) := by
  intro pins s σ H vs us Q I r h
  obtain ⟨a, ps, rfl, hs, hd, al, so, sz, q⟩ := h
  obtain ⟨its, rv, hl, hz⟩ := I.list hs
  obtain ⟨u, rfl, ru⟩ := vals1 r
  obtain rfl : u = Value.ref a := ru
  refine sorted_data (enc := fun b : V × PyData => b.2) hl.isList (each_vals rv) (each_reads I hd rv) al so sz (fun b hb => ?_) fun out lo eo => ?_
  · have := (hd b hb).2
    omega
  · obtain ⟨c, hc⟩ := sortedAll_at s.heap its out.toArray
    have fresh : H (s.heap.objs.size + 1) = none := I.hok.fresh (Nat.le_succ _)
    have len : ((ps.mergeSort (dataLe false (·.2))).map (·.1)).length ≤ sizeLine := by
      rw [List.length_map, List.length_mergeSort]
      exact sz
    have ok : ObjOk X.prog X.w (upd H (s.heap.objs.size + 1) (.lst ((ps.mergeSort (dataLe false (·.2))).map (·.1)))) (sortedAll s.heap its out.toArray) (s.heap.objs.size + 1) (.lst ((ps.mergeSort (dataLe false (·.2))).map (·.1))) := ⟨len, out, c, vals_each eo, hc⟩
    exact ⟨.ref (s.heap.objs.size + 1), _, I.laid (t' := s.toks) (fun b o e => sortedAll_old e) (Nat.le_succ _) ok, rfl, q _ fresh⟩
end L2.TB
namespace L2.TB
open PySem PySem.Spec PyProof.Rows
/-! files in their order -/
/-- things made anew beside the list that is made: R may speak of it -/
theorem lc_madeD {J : It} {g : TG} {tt : TT} {te : TE} {vs : List Nat} {σ : St} {H1 : Hp} {Q : Addr → Hp → Prop} (n : Nat) (short : n < 1000000) (go : ∀ i H, Same H1 H → i < n → J.go i H) (stop : ∀ H, Same H1 H → J.stop n H) (R : Addr → Nat → V → Hp → Prop)
    (stays : ∀ D i y H H', R D i y H → (∀ b o, b ≠ D → H b = some o → H' b = some o) → R D i y H')
    (turn : ∀ (D : Addr) (i : Nat) (x : V) (H H' : Hp) (C : V → Hp → Prop) (N : Hp → Prop), H1 D = none → i < n → Same H1 H → (∃ o, H D = some o) → J.yld i H x H' → (∀ y H4, R D i y H4 → Same H H4 → C y H4) → g x (wipe σ vs) H' fun σ2 H2 => wipe σ2 vs = wipe σ vs ∧ tt σ2 H2 fun b H3 => if b = true then te σ2 H3 C else N H3)
    (fin : ∀ H D ys, H1 D = none → H D = some (.lst ys) → ys.length = n → (∀ j y, ys[j]? = some y → R D j y H) → Same H1 H → Q D H) : LcW J g tt te vs σ H1 Q := by
  intro D nD
  refine ⟨fun i m H => m = n - i ∧ i ≤ n ∧ ∃ ys : List V, H D = some (.lst ys) ∧ ys.length = i ∧ (∀ j y, ys[j]? = some y → R D j y H) ∧ Same H1 H, ⟨_, rfl, Nat.zero_le _, [], upd_same, rfl, (fun j y e => by cases e), same_new nD⟩, ?_⟩
  rintro i m H ⟨rfl, le, ys, oD, ly, ry, s1⟩
  by_cases lt : i < n
  · refine .inr ⟨go i H s1 lt, fun H' => ∃ ys : List V, H' D = some (.lst ys) ∧ ys.length = i + 1 ∧ (∀ j y, ys[j]? = some y → R D j y H') ∧ Same H1 H', fun H' h => ⟨n - (i + 1), by omega, rfl, lt, h⟩, fun x H' yl => ?_⟩
    refine turn D i x H H' _ _ nD lt s1 ⟨_, oD⟩ yl fun y H4 ry4 s4 => ⟨_, s4 _ _ oD, by rw [sizeLine_eq]; omega, ys ++ [y], upd_same, by simp [ly], fun j z ej => ?_, ?_⟩
    · have keep : ∀ b o, b ≠ D → H4 b = some o → upd H4 D (.lst (ys ++ [y])) b = some o := fun b o nb e => by rw [upd_ne nb]; exact e
      rcases Nat.lt_or_ge j ys.length with h | h
      · rw [List.getElem?_append_left h] at ej
        exact stays _ _ _ _ _ (stays D j z H H4 (ry j z ej) fun b o _ e => s4 _ _ e) keep
      · rw [List.getElem?_append_right h] at ej
        have e0 : j - ys.length = 0 := by
          have := (List.getElem?_eq_some_iff.mp ej).1
          simp at this
          omega
        rw [e0] at ej
        obtain rfl : y = z := Option.some.inj ej
        have ji : j = i := by omega
        subst ji
        exact stays _ _ _ _ _ ry4 keep
    · intro b u e
      rw [upd_ne (ne_of_none e nD)]
      exact s4 _ _ (s1 _ _ e)
  · obtain rfl : i = n := by omega
    exact .inl ⟨stop H s1, fin H D ys nD oD ly ry s1⟩
abbrev rLenS (K : PySem.W.Frag) : List V → Hp → VK → Prop := fun xs H Q => ∃ p ys, xs = [V.ref p] ∧ (SqL K H p ys ∨ SqT K H p ys) ∧ Q (V.int (ys.length : Nat)) H
/-- what a file is sorted by -/
def encF (names fl : List Str) : PyData := .tuple [.int (fl.length : Nat), .list (fl.map fun x => .int (idx names x : Nat)), .list (fl.map .str)]
def inOrder (names : List Str) (files : List (List Str)) : List (List Str) := files.mergeSort (PySem.W.dataLe false (encF names))
def FilesAt (H : Hp) : List Addr → List (List Str) → Prop := Paired fun p (l : List Str) => H p = some (.lst (l.map V.str))
theorem FilesAt.same {H H' : Hp} {ps : List Addr} {fs : List (List Str)} (h : FilesAt H ps fs) (s : Same H H') : FilesAt H' ps fs := Paired.mapP h fun p l e => s _ _ e
theorem alike_ints : ∀ xs ys : List Nat, PySem.W.alikeAll (xs.map fun x => PyData.int (x : Nat)) (ys.map fun x => PyData.int (x : Nat)) = true
  | [], ys => by cases ys <;> simp [PySem.W.alikeAll]
  | _ :: _, [] => by simp [PySem.W.alikeAll]
  | x :: xs, y :: ys => by
    have := alike_ints xs ys
    simp [PySem.W.alikeAll, PySem.W.alike, this]
theorem alike_strs : ∀ xs ys : List Str, PySem.W.alikeAll (xs.map .str) (ys.map .str) = true
  | [], ys => by cases ys <;> simp [PySem.W.alikeAll]
  | _ :: _, [] => by simp [PySem.W.alikeAll]
  | x :: xs, y :: ys => by
    have := alike_strs xs ys
    simp [PySem.W.alikeAll, PySem.W.alike, this]
theorem encF_alike (names fl gl : List Str) : PySem.W.alike (encF names fl) (encF names gl) = true := by
  have h1 := alike_ints (fl.map (idx names)) (gl.map (idx names))
  rw [List.map_map, List.map_map] at h1
  have h2 := alike_strs fl gl
  unfold encF
  simp only [PySem.W.alike, PySem.W.alikeAll, Bool.and_eq_true, and_true, true_and]
  exact ⟨h1, h2⟩
theorem depth_ints : ∀ xs : List Str, ∀ names : List Str, PyData.depthAll (xs.map fun x => PyData.int (idx names x : Nat)) = 0
  | [], _ => by simp [PyData.depthAll]
  | x :: xs, names => by simp [PyData.depthAll, PyData.depth, depth_ints xs names]
theorem depth_strs : ∀ xs : List Str, PyData.depthAll (xs.map PyData.str) = 0
  | [] => by simp [PyData.depthAll]
  | x :: xs => by simp [PyData.depthAll, PyData.depth, depth_strs xs]
theorem encF_depth (names fl : List Str) : (encF names fl).depth ≤ 10 := by
  unfold encF
  have h1 := depth_ints fl names
  have h2 := depth_strs fl
  simp [PyData.depth, PyData.depthAll, h1, h2]
theorem dp_strs5 {K : PySem.W.Frag} {H : Hp} : ∀ cs : List Str, DpAll K H (cs.map V.str) (cs.map PyData.str)
  | [] => .nil
  | c :: cs => .cons (.str c) (dp_strs5 cs)
theorem dp_idx {K : PySem.W.Frag} {H : Hp} (names : List Str) : ∀ cs : List Str, DpAll K H (cs.map fun x => V.int (idx names x : Nat)) (cs.map fun x => PyData.int (idx names x : Nat))
  | [] => .nil
  | c :: cs => .cons (.int _) (dp_idx names cs)
theorem encF_dp {K : PySem.W.Frag} {H : Hp} {t pl p : Addr} {names fl : List Str} (ot : H t = some (.tup [V.int (fl.length : Nat), V.ref pl, V.ref p])) (op : H pl = some (.lst (fl.map fun x => V.int (idx names x : Nat)))) (of : H p = some (.lst (fl.map V.str))) : Dp K H (.ref t) (encF names fl) :=
  .tup (SqT.of ot) (.cons (.int _) (.cons (.lst (SqL.of op) (dp_idx names fl)) (.cons (.lst (SqL.of of) (dp_strs5 fl)) .nil)))
end L2.TB
namespace L2.TB
open PySem PySem.Spec PyProof.Rows
/-- tuple, places, file, the names in it -/
abbrev Row4 := Addr × Addr × Addr × List Str
theorem rows4_of {H : Hp} {names : List Str} : ∀ (ys : List V) (ps : List Addr) (fs : List (List Str)), ys.length = ps.length → ps.length = fs.length →
    (∀ (j : Nat) (y : V), ys[j]? = some y → ∃ t pl p fl, y = V.ref t ∧ ps[j]? = some p ∧ fs[j]? = some fl ∧ H t = some (.tup [V.int (fl.length : Nat), V.ref pl, V.ref p]) ∧ H pl = some (.lst (fl.map fun x => V.int (idx names x : Nat))) ∧ H p = some (.lst (fl.map V.str))) →
    ∃ zs : List Row4, ys = zs.map (fun z => V.ref z.1) ∧ fs = zs.map (fun z => z.2.2.2) ∧ ∀ z ∈ zs, H z.1 = some (.tup [V.int (z.2.2.2.length : Nat), V.ref z.2.1, V.ref z.2.2.1]) ∧ H z.2.1 = some (.lst (z.2.2.2.map fun x => V.int (idx names x : Nat))) ∧ H z.2.2.1 = some (.lst (z.2.2.2.map V.str)) ∧ z.2.2.1 ∈ ps
  | [], [], [], _, _, _ => ⟨[], rfl, rfl, fun z hz => by cases hz⟩
  | y :: ys, p :: ps, fl :: fs, l1, l2, h => by
    obtain ⟨t, pl, p', fl', rfl, e1, e2, o1, o2, o3⟩ := h 0 y rfl
    obtain rfl : p = p' := Option.some.inj e1
    obtain rfl : fl = fl' := Option.some.inj e2
    obtain ⟨zs, rfl, rfl, hz⟩ := rows4_of ys ps fs (by simpa using l1) (by simpa using l2) fun j y e => h (j + 1) y e
    refine ⟨(t, pl, p, fl) :: zs, rfl, rfl, fun z hz' => ?_⟩
    rcases List.mem_cons.mp hz' with rfl | hm
    · exact ⟨o1, o2, o3, List.mem_cons_self⟩
    · obtain ⟨q1, q2, q3, q4⟩ := hz z hm
      exact ⟨q1, q2, q3, List.mem_cons_of_mem _ q4⟩
end L2.TB
namespace L2.TB
open PySem PySem.Spec PyProof.Rows
/-! some of some files -/
theorem zip_files {H : Hp} : ∀ {ps : List Addr} {fs : List (List Str)} (c : List Str → Bool), FilesAt H ps fs → FilesAt H (((ps.zip fs).filter fun z => c z.2).map (·.1)) (fs.filter c)
  | _, _, c, .nil => .nil
  | _, _, c, .cons (a := p) (b := l) (l₁ := ps) (l₂ := fs) h t => by
    have ih := zip_files c t
    rw [List.zip_cons_cons, List.filter_cons, List.filter_cons]
    by_cases k : c l = true
    · rw [if_pos k, if_pos k]
      exact .cons h ih
    · rw [if_neg k, if_neg k]
      exact ih
theorem lc_filterF {K : PySem.W.Frag} {r : Addr} {ps : List Addr} {fs : List (List Str)} {g : TG} {tt : TT} {te : TE} {vs : List Nat} {σ : St} {H1 : Hp} {Q : Addr → Hp → Prop} (orr : H1 r = some (.lst (ps.map V.ref))) (F : FilesAt H1 ps fs) (short : fs.length < 1000000) (c : List Str → Bool)
    (turn : ∀ (p : Addr) (l : List Str) (H : Hp) (C : V → Hp → Prop) (N : Hp → Prop), l ∈ fs → H p = some (.lst (l.map V.str)) → Same H1 H → (c l = true → ∀ H4, Same H H4 → C (.ref p) H4) → (c l = false → ∀ H4, Same H H4 → N H4) →
      g (.ref p) (wipe σ vs) H fun σ2 H2 => wipe σ2 vs = wipe σ vs ∧ tt σ2 H2 fun b H3 => if b = true then te σ2 H3 C else N H3)
    (fin : ∀ H D qs, H1 D = none → H D = some (.lst ((qs : List Addr).map V.ref)) → FilesAt H qs (fs.filter c) → Same H1 H → (∀ p ∈ qs, p ∈ ps) → Q D H) : LcW (Itl K r) g tt te vs σ H1 Q := by
  have lps : ps.length = fs.length := Paired.length F
  have lz : (ps.zip fs).length = fs.length := by rw [List.length_zip]; omega
  refine lc_genO ((ps.zip fs).map fun z => if c z.2 = true then some (V.ref z.1) else none) (by rw [List.length_map]; omega) (fun i H' s lt => ⟨_, _, SqL.of (s _ _ orr), List.getElem?_eq_getElem (by rw [List.length_map] at lt ⊢; omega)⟩) (fun H' s => ⟨_, SqL.of (s _ _ orr), by rw [List.length_map, List.length_map]; omega⟩) ?_ ?_
  · rintro i v o H2 H3 Cn Nn eo s2 ⟨rfl, ev⟩ yes no
    have ev := ev _ (SqL.of (s2 _ _ orr))
    rw [List.getElem?_map] at ev eo
    obtain ⟨p, ep, rfl⟩ := Option.map_eq_some_iff.mp ev
    obtain ⟨l, el, op⟩ := paired_get (F.same s2) ep
    have ez : (ps.zip fs)[i]? = some (p, l) := List.getElem?_zip_eq_some.mpr ⟨ep, el⟩
    rw [ez] at eo
    obtain rfl := Option.some.inj eo
    refine turn p l H3 Cn Nn (List.mem_of_getElem? el) op s2 (fun k H4 s4 => yes _ (if_pos k) H4 s4) fun k H4 s4 => no (if_neg (by rw [k]; simp)) H4 s4
  · intro H2 D nD oD s2
    rw [opt_list (fun z : Addr × List Str => c z.2) (fun z => V.ref z.1)] at oD
    refine fin H2 D (((ps.zip fs).filter fun z => c z.2).map (·.1)) nD (by rw [List.map_map]; exact oD) (zip_files c (F.same s2)) s2 (fun p hp => by
      obtain ⟨z, hz, rfl⟩ := List.mem_map.mp hp
      exact (List.of_mem_zip (List.mem_filter.mp hz).1).1)
/-- a file is among some -/
theorem filesD_shape : ∀ fs : List (List Str), (∀ l ∈ fs, ∀ x ∈ l, PyData.strOk x = true) → PyData.canLayAll0 (fs.map fun l => PyData.list (l.map .str)) = true ∧ PyData.depthAll (fs.map fun l => PyData.list (l.map .str)) ≤ 1
  | [], _ => ⟨by simp [PyData.canLayAll0], by simp [PyData.depthAll]⟩
  | l :: fs, h => by
    obtain ⟨h1, h2⟩ := filesD_shape fs fun m hm => h m (List.mem_cons_of_mem _ hm)
    have g1 : PyData.canLayAll0 (l.map .str) = true := by
      have z : ∀ ks : List Str, (∀ k ∈ ks, PyData.strOk k = true) → PyData.canLayAll0 (ks.map PyData.str) = true := by
        intro ks
        induction ks with
        | nil => intro _; simp [PyData.canLayAll0]
        | cons b bs ih =>
          intro hk
          have h3 := hk b List.mem_cons_self
          have h4 := ih fun k hk' => hk k (List.mem_cons_of_mem _ hk')
          simp [PyData.canLayAll0, PyData.canLay0, h3, h4]
      exact z l (h l List.mem_cons_self)
    have g2 := depth_strs l
    refine ⟨by simp [PyData.canLayAll0, PyData.canLay0, g1, h1], ?_⟩
    rw [List.map_cons, PyData.depthAll, PyData.depth, g2]
    omega
theorem dpD_files {K : PySem.W.Frag} {H : Hp} : ∀ {ps : List Addr} {fs : List (List Str)}, FilesAt H ps fs → DpAll K H (ps.map V.ref) (fs.map fun l => PyData.list (l.map .str))
  | _, _, .nil => .nil
  | _, _, .cons h t => .cons (.lst (SqL.of h) (dp_strs5 _)) (dpD_files t)
theorem strs_eqvAll5 : ∀ a b : List Str, PyData.eqvAll (a.map PyData.str) (b.map PyData.str) = decide (a = b)
  | [], [] => by simp [PyData.eqvAll]
  | [], _ :: _ => by simp [PyData.eqvAll]
  | _ :: _, [] => by simp [PyData.eqvAll]
  | x :: a, y :: b => by
    rw [List.map_cons, List.map_cons, PyData.eqvAll, strs_eqvAll5 a b, PyData.eqv]
    by_cases h1 : x = y
    · by_cases h2 : a = b <;> simp [h1, h2]
    · simp [h1]
theorem any_files (fs : List (List Str)) (l : List Str) : ((fs.map fun l => PyData.list (l.map .str)).any fun z => PyData.eqv z (.list (l.map .str))) = decide (l ∈ fs) := by
  rw [Bool.eq_iff_iff, List.any_map, List.any_eq_true, decide_eq_true_eq]
  constructor
  · rintro ⟨m, hm, e⟩
    have e : PyData.eqv (.list (m.map .str)) (.list (l.map .str)) = true := e
    rw [PyData.eqv, strs_eqvAll5, decide_eq_true_eq] at e
    exact e ▸ hm
  · intro h
    refine ⟨l, h, ?_⟩
    show PyData.eqv (.list (l.map .str)) (.list (l.map .str)) = true
    rw [PyData.eqv, strs_eqvAll5]
    simp
end L2.TB
namespace L2.TB
open PySem PySem.Spec PyProof.Rows
theorem files_sub (own : List Str) : ∀ l ∈ filesL own, ∀ x ∈ l, x ∈ own := by
  have z : ∀ (ns : List Str) (acc : List (List Str)), (∀ l ∈ acc, ∀ x ∈ l, x ∈ own) → (∀ n ∈ ns, n ∈ own) → ∀ l ∈ ns.foldl (fun acc n => acc ++ acc.map (· ++ [n])) acc, ∀ x ∈ l, x ∈ own := by
    intro ns
    induction ns with
    | nil => intro acc h _ l hl; exact h l hl
    | cons n ns ih =>
      intro acc h hn l hl
      rw [List.foldl_cons] at hl
      refine ih _ (fun m hm x hx => ?_) (fun k hk => hn k (List.mem_cons_of_mem _ hk)) l hl
      rcases List.mem_append.mp hm with q | q
      · exact h m q x hx
      · obtain ⟨y, hy, rfl⟩ := List.mem_map.mp q
        rcases List.mem_append.mp hx with w | w
        · exact h y hy x w
        · rw [List.mem_singleton.mp w]
          exact hn n List.mem_cons_self
  exact z own [[]] (fun l hl x hx => by rw [List.mem_singleton.mp hl] at hx; cases hx) (fun n h => h)
def telG (T : List Str → Prop) [DecidablePred T] (own : List Str) : List (List Str) := (filesL own).filter fun l => decide (T l)
def silG (T : List Str → Prop) [DecidablePred T] (own : List Str) : List (List Str) := (filesL own).filter fun l => !decide (l ∈ telG T own)
def leastG (T : List Str → Prop) [DecidablePred T] (own : List Str) : List (List Str) := (telG T own).filter fun l => !((telG T own).any fun o => lessF o l)
def mostG (T : List Str → Prop) [DecidablePred T] (own : List Str) : List (List Str) := (silG T own).filter fun l => !((silG T own).any fun o => lessF l o)
def enc2 (own l : List Str) : PyData := .tuple [.list (l.map fun x => .int (idx own x : Nat)), .list (l.map .str)]
def mostSG (T : List Str → Prop) [DecidablePred T] (own : List Str) : List (List Str) := (mostG T own).mergeSort (PySem.W.dataLe false (enc2 own))
theorem filesD_shaped {fs : List (List Str)} (h : ∀ l ∈ fs, ∀ x ∈ l, PyData.strOk x = true) : SeqAt.shaped (.list (fs.map fun l => PyData.list (l.map .str))) = true := by
  obtain ⟨h1, h2⟩ := filesD_shape fs h
  unfold SeqAt.shaped
  have d : PyData.depth (.list (fs.map fun l => PyData.list (l.map .str))) ≤ 2 := by
    rw [PyData.depth]
    omega
  simp [PyData.canLay0, h1]
  omega
theorem fileD_shaped {l : List Str} (h : ∀ x ∈ l, PyData.strOk x = true) : SeqAt.shaped (.list (l.map PyData.str)) = true := by
  obtain ⟨h1, h2⟩ := filesD_shape [l] fun m hm => by rw [List.mem_singleton.mp hm]; exact h
  rw [List.map_cons, List.map_nil, PyData.canLayAll0, Bool.and_eq_true] at h1
  rw [List.map_cons, List.map_nil, PyData.depthAll] at h2
  unfold SeqAt.shaped
  have d : PyData.depth (.list (l.map PyData.str)) ≤ 2 := by omega
  simp [h1.1]
  omega
theorem rows4b_of {H : Hp} {names : List Str} : ∀ (ys : List V) (ps : List Addr) (fs : List (List Str)), ys.length = ps.length → ps.length = fs.length →
    (∀ (j : Nat) (y : V), ys[j]? = some y → ∃ t pl p fl, y = V.ref t ∧ ps[j]? = some p ∧ fs[j]? = some fl ∧ H t = some (.tup [V.ref pl, V.ref p]) ∧ H pl = some (.lst (fl.map fun x => V.int (idx names x : Nat))) ∧ H p = some (.lst (fl.map V.str))) →
    ∃ zs : List Row4, ys = zs.map (fun z => V.ref z.1) ∧ fs = zs.map (fun z => z.2.2.2) ∧ ∀ z ∈ zs, H z.1 = some (.tup [V.ref z.2.1, V.ref z.2.2.1]) ∧ H z.2.1 = some (.lst (z.2.2.2.map fun x => V.int (idx names x : Nat))) ∧ H z.2.2.1 = some (.lst (z.2.2.2.map V.str))
  | [], [], [], _, _, _ => ⟨[], rfl, rfl, fun z hz => by cases hz⟩
  | y :: ys, p :: ps, fl :: fs, l1, l2, h => by
    obtain ⟨t, pl, p', fl', rfl, e1, e2, o1, o2, o3⟩ := h 0 y rfl
    obtain rfl : p = p' := Option.some.inj e1
    obtain rfl : fl = fl' := Option.some.inj e2
    obtain ⟨zs, rfl, rfl, hz⟩ := rows4b_of ys ps fs (by simpa using l1) (by simpa using l2) fun j y e => h (j + 1) y e
    refine ⟨(t, pl, p, fl) :: zs, rfl, rfl, fun z hz' => ?_⟩
    rcases List.mem_cons.mp hz' with rfl | hm
    · exact ⟨o1, o2, o3⟩
    · exact hz z hm
theorem enc2_alike (own fl gl : List Str) : PySem.W.alike (enc2 own fl) (enc2 own gl) = true := by
  have h1 := alike_ints (fl.map (idx own)) (gl.map (idx own))
  rw [List.map_map, List.map_map] at h1
  have h2 := alike_strs fl gl
  unfold enc2
  simp only [PySem.W.alike, PySem.W.alikeAll, Bool.and_eq_true, and_true]
  exact ⟨h1, h2⟩
theorem enc2_depth (own fl : List Str) : (enc2 own fl).depth ≤ 10 := by
  unfold enc2
  have h1 := depth_ints fl own
  have h2 := depth_strs fl
  simp [PyData.depth, PyData.depthAll, h1, h2]
theorem enc2_dp {K : PySem.W.Frag} {H : Hp} {t pl p : Addr} {own fl : List Str} (ot : H t = some (.tup [V.ref pl, V.ref p])) (op : H pl = some (.lst (fl.map fun x => V.int (idx own x : Nat)))) (of : H p = some (.lst (fl.map V.str))) : Dp K H (.ref t) (enc2 own fl) :=
  .tup (SqT.of ot) (.cons (.lst (SqL.of op) (dp_idx own fl)) (.cons (.lst (SqL.of of) (dp_strs5 fl)) .nil))
end L2.TB
namespace L2.TB
open PySem PySem.Spec PyProof.Rows
/-! files by doubling are files by the bits of their index -/
theorem hasB_add {m k p : Nat} (h : p < k) : hasB (m + 2 ^ k) p = hasB m p := by
  unfold hasB
  obtain ⟨d, rfl⟩ : ∃ d, k = p + (d + 1) := ⟨k - p - 1, by omega⟩
  have e : 2 ^ (p + (d + 1)) = 2 ^ p * (2 * 2 ^ d) := by rw [Nat.pow_add, Nat.pow_succ, Nat.mul_comm (2 ^ d) 2]
  rw [e, Nat.add_mul_div_left _ _ (Nat.two_pow_pos p), Nat.add_mul_mod_self_left]
theorem hasB_top {m k : Nat} (h : m < 2 ^ k) : hasB (m + 2 ^ k) k = true ∧ hasB m k = false := by
  unfold hasB
  constructor
  · rw [Nat.add_div_right _ (Nat.two_pow_pos k), Nat.div_eq_of_lt h]
    rfl
  · rw [Nat.div_eq_of_lt h]
    rfl
theorem bits_succ (k m : Nat) : bitsL (k + 1) m = bitsL k m ++ if hasB m k = true then [k] else [] := by
  unfold bitsL
  rw [List.range_succ, List.filter_append, List.filter_cons]
  rfl
theorem bits_lt {k m : Nat} : ∀ p ∈ bitsL k m, p < k := fun p hp => List.mem_range.mp (List.mem_filter.mp hp).1
theorem atP_app {names : List Str} {n : Str} {ps : List Nat} (h : ∀ p ∈ ps, p < names.length) : atP (names ++ [n]) ps = atP names ps := by
  unfold atP
  refine List.map_congr_left fun p hp => ?_
  rw [List.getD_eq_getElem?_getD, List.getD_eq_getElem?_getD, List.getElem?_append_left (h p hp)]
theorem files_at : ∀ (names : List Str) (m : Nat), m < 2 ^ names.length → (filesL names)[m]? = some (atP names (bitsL names.length m)) := by
  intro names
  have z : ∀ (k : Nat) (names : List Str), names.length = k → ∀ m, m < 2 ^ k → (filesL names)[m]? = some (atP names (bitsL k m)) := by
    intro k
    induction k with
    | zero =>
      intro names h m hm
      obtain rfl := List.length_eq_zero_iff.mp h
      obtain rfl : m = 0 := by simpa using hm
      rfl
    | succ k ih =>
      intro names h m hm
      have ne : names ≠ [] := fun e => by rw [e] at h; cases h
      obtain ⟨ns, n, rfl⟩ : ∃ ns n, names = ns ++ [n] := ⟨names.dropLast, names.getLast ne, (List.dropLast_concat_getLast ne).symm⟩
      have lk : ns.length = k := by
        rw [List.length_append] at h
        have h : ns.length + 1 = k + 1 := h
        omega
      have lf : (filesL ns).length = 2 ^ k := by rw [files_len, lk]
      rw [files_snoc]
      by_cases lt : m < 2 ^ k
      · rw [List.getElem?_append_left (by omega), ih ns lk m lt, bits_succ, (hasB_top lt).2]
        rw [if_neg (by simp), List.append_nil, atP_app fun p hp => by rw [lk]; exact bits_lt p hp]
      · obtain ⟨j, rfl⟩ : ∃ j, m = j + 2 ^ k := ⟨m - 2 ^ k, by omega⟩
        have hj : j < 2 ^ k := by rw [Nat.pow_succ] at hm; omega
        rw [List.getElem?_append_right (by omega), lf, show j + 2 ^ k - 2 ^ k = j from by omega, List.getElem?_map, ih ns lk j hj, bits_succ, (hasB_top hj).1, if_pos rfl]
        have e : bitsL k (j + 2 ^ k) = bitsL k j := by
          unfold bitsL
          refine List.filter_congr fun p hp => ?_
          exact hasB_add (List.mem_range.mp hp)
        rw [e]
        have e2 : atP (ns ++ [n]) (bitsL k j ++ [k]) = atP (ns ++ [n]) (bitsL k j) ++ [n] := by
          unfold atP
          rw [List.map_append]
          congr 1
          show [(ns ++ [n]).getD k (Str.ofString "")] = [n]
          rw [List.getD_eq_getElem?_getD, List.getElem?_append_right (by omega), lk, Nat.sub_self]
          rfl
        rw [e2, atP_app fun p hp => by rw [lk]; exact bits_lt p hp]
        rfl
  exact z names.length names rfl
end L2.TB
namespace L2.TB
open PySem PySem.Spec PyProof.Rows
/-! least ones by taking one question away -/
theorem files_mem : ∀ (names l : List Str), l ∈ filesL names ↔ List.Sublist l names := by
  have z : ∀ (k : Nat) (names : List Str), names.length = k → ∀ l, l ∈ filesL names ↔ List.Sublist l names := by
    intro k
    induction k with
    | zero =>
      intro names h l
      obtain rfl := List.length_eq_zero_iff.mp h
      show l ∈ [[]] ↔ _
      rw [List.mem_singleton, List.sublist_nil]
    | succ k ih =>
      intro names h l
      have ne : names ≠ [] := fun e => by rw [e] at h; cases h
      obtain ⟨ns, n, rfl⟩ : ∃ ns n, names = ns ++ [n] := ⟨names.dropLast, names.getLast ne, (List.dropLast_concat_getLast ne).symm⟩
      have lk : ns.length = k := by
        rw [List.length_append] at h
        have h : ns.length + 1 = k + 1 := h
        omega
      rw [files_snoc, List.mem_append, ih ns lk, List.sublist_append_iff]
      constructor
      · rintro (h | h)
        · exact ⟨l, [], by simp, h, List.nil_sublist _⟩
        · obtain ⟨m, hm, rfl⟩ := List.mem_map.mp h
          exact ⟨m, [n], rfl, (ih ns lk m).mp hm, List.Sublist.refl _⟩
      · rintro ⟨a, b, rfl, ha, hb⟩
        match b, hb with
        | [], _ => rw [List.append_nil]; exact .inl ha
        | [c], hb =>
          have e : c = n := List.mem_singleton.mp (hb.subset List.mem_cons_self)
          subst e
          exact .inr (List.mem_map.mpr ⟨a, (ih ns lk a).mpr ha, rfl⟩)
        | c :: d :: r, hb =>
          have := hb.length_le
          simp at this
  exact fun names => z names.length names rfl
theorem files_nd {names l : List Str} (nd : names.Nodup) (h : l ∈ filesL names) : l.Nodup := nd.sublist ((files_mem names l).mp h)
theorem but_file {names l : List Str} (y : Str) (h : l ∈ filesL names) : butS l y ∈ filesL names := (files_mem names _).mpr ((List.filter_sublist).trans ((files_mem names l).mp h))
theorem but_less {l : List Str} {y : Str} (h : y ∈ l) : lessF (butS l y) l = true := by
  unfold lessF
  rw [Bool.and_eq_true, decide_eq_true_eq, List.all_eq_true]
  refine ⟨?_, fun x hx => decide_eq_true (List.mem_filter.mp hx).1⟩
  unfold butS
  have := List.length_filter_lt_length_iff_exists (p := fun x => !decide (x = y)) (l := l)
  exact this.mpr ⟨y, h, by simp⟩
/-- a telling file that stands in l, not being it, is there just if one question less tells -/
theorem less_iff {own : List Str} (nd : own.Nodup) {T : List Str → Prop} (mono : ∀ a b : List Str, (∀ y ∈ a, y ∈ b) → T a → T b) {l : List Str} (hl : l ∈ filesL own) : (∃ o ∈ filesL own, T o ∧ lessF o l = true) ↔ ∃ y ∈ l, T (butS l y) := by
  constructor
  · rintro ⟨o, ho, To, hlt⟩
    unfold lessF at hlt
    rw [Bool.and_eq_true, decide_eq_true_eq, List.all_eq_true] at hlt
    have ex : ∃ y ∈ l, y ∉ o := by
      by_cases c : ∃ y ∈ l, y ∉ o
      · exact c
      · exfalso
        have sub : ∀ y ∈ l, y ∈ o := fun y hy => by
          by_cases q : y ∈ o
          · exact q
          · exact absurd ⟨y, hy, q⟩ c
        have := List.Nodup.length_le_of_subset (files_nd nd hl) (fun y hy => sub y hy)
        omega
    obtain ⟨y, hy, no⟩ := ex
    refine ⟨y, hy, mono o _ (fun z hz => ?_) To⟩
    refine List.mem_filter.mpr ⟨of_decide_eq_true (hlt.2 z hz), ?_⟩
    have : z ≠ y := fun e => no (e ▸ hz)
    simpa using this
  · rintro ⟨y, hy, Ty⟩
    exact ⟨butS l y, but_file y hl, Ty, but_less hy⟩
/-- the least ones: each question is needed -/
theorem least_mem {T : List Str → Prop} [DecidablePred T] {own : List Str} (mono : ∀ a b : List Str, (∀ y ∈ a, y ∈ b) → T a → T b) (nd : own.Nodup) {l : List Str} : l ∈ leastG T own ↔ List.Sublist l own ∧ T l ∧ ∀ y ∈ l, ¬ T (butS l y) := by
  unfold leastG
  rw [List.mem_filter]
  unfold telG
  rw [List.mem_filter, decide_eq_true_eq, Bool.not_eq_true', List.any_eq_false]
  constructor
  · rintro ⟨⟨h1, h2⟩, h3⟩
    refine ⟨(files_mem own l).mp h1, h2, fun y hy t => ?_⟩
    obtain ⟨o, ho, To, hlt⟩ := (less_iff nd mono h1).mpr ⟨y, hy, t⟩
    exact h3 o (List.mem_filter.mpr ⟨ho, decide_eq_true To⟩) hlt
  · rintro ⟨h1, h2, h3⟩
    have hl := (files_mem own l).mpr h1
    refine ⟨⟨hl, h2⟩, fun o ho hlt => ?_⟩
    obtain ⟨ho1, ho2⟩ := List.mem_filter.mp ho
    obtain ⟨y, hy, t⟩ := (less_iff nd mono hl).mp ⟨o, ho1, of_decide_eq_true ho2, hlt⟩
    exact h3 y hy t
end L2.TB
namespace L2.TB
open PySem PySem.Spec PyProof.Rows
/-- the secrets: each further question tells -/
theorem most_mem {T : List Str → Prop} [DecidablePred T] {own : List Str} (mono : ∀ a b : List Str, (∀ y ∈ a, y ∈ b) → T a → T b) (nd : own.Nodup) {l : List Str} : l ∈ mostG T own ↔ List.Sublist l own ∧ ¬ T l ∧ ∀ y ∈ own, y ∉ l → T (y :: l) := by
  have sil : ∀ o, o ∈ silG T own ↔ o ∈ filesL own ∧ ¬ T o := fun o => by
    unfold silG
    rw [List.mem_filter, Bool.not_eq_true', decide_eq_false_iff_not]
    unfold telG
    rw [List.mem_filter, decide_eq_true_eq]
    constructor
    · rintro ⟨h1, h2⟩; exact ⟨h1, fun t => h2 ⟨h1, t⟩⟩
    · rintro ⟨h1, h2⟩; exact ⟨h1, fun t => h2 t.2⟩
  unfold mostG
  rw [List.mem_filter, sil, Bool.not_eq_true', List.any_eq_false]
  constructor
  · rintro ⟨⟨h1, h2⟩, h3⟩
    refine ⟨(files_mem own l).mp h1, h2, fun y hy no => ?_⟩
    by_cases t : T (y :: l)
    · exact t
    exfalso
    have hl := (files_mem own l).mp h1
    have ho : own.filter (fun z => decide (z ∈ y :: l)) ∈ filesL own := (files_mem own _).mpr List.filter_sublist
    have no2 : ¬ T (own.filter fun z => decide (z ∈ y :: l)) := fun t' => t (mono _ _ (fun z hz => of_decide_eq_true (List.mem_filter.mp hz).2) t')
    refine h3 _ ((sil _).mpr ⟨ho, no2⟩) ?_
    unfold lessF
    rw [Bool.and_eq_true, decide_eq_true_eq, List.all_eq_true]
    have sub : ∀ z ∈ l, z ∈ own.filter fun z => decide (z ∈ y :: l) := fun z hz => List.mem_filter.mpr ⟨hl.subset hz, decide_eq_true (List.mem_cons_of_mem _ hz)⟩
    refine ⟨?_, fun z hz => decide_eq_true (sub z hz)⟩
    have n1 : (y :: l).Nodup := List.nodup_cons.mpr ⟨no, files_nd nd h1⟩
    have := List.Nodup.length_le_of_subset (l₂ := own.filter fun z => decide (z ∈ y :: l)) n1 (fun z hz => by
      rcases List.mem_cons.mp hz with rfl | h
      · exact List.mem_filter.mpr ⟨hy, decide_eq_true List.mem_cons_self⟩
      · exact sub z h)
    rw [List.length_cons] at this
    omega
  · rintro ⟨h1, h2, h3⟩
    refine ⟨⟨(files_mem own l).mpr h1, h2⟩, fun o ho hlt => ?_⟩
    obtain ⟨ho1, ho2⟩ := (sil o).mp ho
    unfold lessF at hlt
    rw [Bool.and_eq_true, decide_eq_true_eq, List.all_eq_true] at hlt
    have ex : ∃ y ∈ o, y ∉ l := by
      by_cases c : ∃ y ∈ o, y ∉ l
      · exact c
      · exfalso
        have sub : ∀ y ∈ o, y ∈ l := fun y hy => by
          by_cases q : y ∈ l
          · exact q
          · exact absurd ⟨y, hy, q⟩ c
        have := List.Nodup.length_le_of_subset (files_nd nd ho1) (fun y hy => sub y hy)
        omega
    obtain ⟨y, hy, no⟩ := ex
    refine ho2 (mono _ _ (fun z hz => ?_) (h3 y (((files_mem own o).mp ho1).subset hy) no))
    rcases List.mem_cons.mp hz with rfl | h
    · exact hy
    · exact of_decide_eq_true (hlt.2 z h)
end L2.TB
/-! a def made in a def, told back, handed on and called elsewhere -/
namespace HF
open PySem PySem.Spec PyProof.Rows L2 LamX NdefX
/-- a cell whose frame is left: it holds v, and nobody writes it -/
def CellO (c : Addr) (v : V) : HO := .ext fun h => ∃ u, L2.RelV v u ∧ h.IsCell c (some u)
theorem cellO_ok {P : Program} {w : World} {H : Hp} {h : Heap} {c : Addr} {v : V} {u : Value} (r : L2.RelV v u) (e : h.IsCell c (some u)) : ObjOk P w H h c (CellO c v) := by
  have e0 := e
  obtain ⟨o, ho, hd⟩ := e0
  exact ⟨⟨u, r, e⟩, ⟨o, ho⟩, fun h1 h2 ⟨u, r, o, ho, hd⟩ st => ⟨u, r, o, st _ ho, hd⟩⟩
theorem cellO_at {P : Program} {w : World} {H : Hp} {h : Heap} {c : Addr} {v : V} (ok : HOk P w H h) (e : H c = some (CellO c v)) : ∃ u, L2.RelV v u ∧ h.IsCell c (some u) := (ok c _ e).1
def cs (cl : List (Str × Addr)) : List Addr := cl.map (·.2)
def off (cl : List (Str × Addr)) (H : Hp) : Hp := fun b => if b ∈ cs cl then none else H b
def on (cl : List (Str × Addr)) (H H' : Hp) : Hp := fun b => if b ∈ cs cl then H b else H' b
theorem off_in {cl : List (Str × Addr)} {H : Hp} {b : Addr} (h : b ∈ cs cl) : off cl H b = none := if_pos h
theorem off_out {cl : List (Str × Addr)} {H : Hp} {b : Addr} (h : b ∉ cs cl) : off cl H b = H b := if_neg h
theorem on_in {cl : List (Str × Addr)} {H H' : Hp} {b : Addr} (h : b ∈ cs cl) : on cl H H' b = H b := if_pos h
theorem on_out {cl : List (Str × Addr)} {H H' : Hp} {b : Addr} (h : b ∉ cs cl) : on cl H H' b = H' b := if_neg h
theorem off_none {cl : List (Str × Addr)} {H : Hp} {b : Addr} (h : H b = none) : off cl H b = none := by
  by_cases q : b ∈ cs cl
  · exact off_in q
  · rw [off_out q]; exact h
theorem cs_of {cl : List (Str × Addr)} {y : Str} {c : Addr} (e : cl.lookup y = some c) : c ∈ cs cl := List.mem_map.mpr ⟨(y, c), PySem.mem_of_lookup e, rfl⟩
/-- the cells of a function and what they hold -/
structure Held (cl : List (Str × Addr)) (fr : List Str) (ws : List V) (H : Hp) : Prop where
  len : ws.length = fr.length
  all : ∀ c ∈ cs cl, ∃ v, H c = some (CellO c v)
  inj : ∀ x y c, cl.lookup x = some c → cl.lookup y = some c → x = y
  has : ∀ (i : Nat) (y : Str) (v : V), fr[i]? = some y → ws[i]? = some v → ∃ c, cl.lookup y = some c ∧ H c = some (CellO c v)
theorem cellO_tbl {c : Addr} {v : V} (ps : Array Value) : CellO c v ≠ .tbl ps := fun z => by
  unfold CellO at z
  cases z
theorem Held.ext {cl : List (Str × Addr)} {fr : List Str} {ws : List V} {H H' : Hp} (h : Held cl fr ws H) (e : ExtN H H') : Held cl fr ws H' :=
  ⟨h.len, fun c hc => by obtain ⟨v, q⟩ := h.all c hc; exact ⟨v, e _ _ q cellO_tbl⟩, h.inj, fun i y v h1 h2 => by obtain ⟨c, q1, q2⟩ := h.has i y v h1 h2; exact ⟨c, q1, e _ _ q2 cellO_tbl⟩⟩
section
variable {P : Program} {w : World} {K : PySem.W.Frag} {mg : Str → Option Value} {base : Heap} {cl : List (Str × Addr)} {fr : List Str} {ws : List V} {H H' : Hp} {h h' : Heap} {A : Around} {outer : List Env} {s s' : Shared}
theorem Held.cells (x : Held cl fr ws H) (ok : HOk P w H h) : CellsAt cl fr (ws.map some) h (off cl H) := by
  refine ⟨by rw [List.length_map]; exact x.len, fun y c e => ?_, x.inj, fun i y e => ?_⟩
  · obtain ⟨v, q⟩ := x.all c (cs_of e)
    obtain ⟨u, _, z⟩ := cellO_at ok q
    exact ⟨off_in (cs_of e), _, z⟩
  · obtain ⟨v, hv⟩ : ∃ v, ws[i]? = some v := ⟨_, List.getElem?_eq_getElem (by rw [x.len]; exact (List.getElem?_eq_some_iff.mp e).1)⟩
    obtain ⟨c, q1, q2⟩ := x.has i y v e hv
    refine ⟨c, q1, fun v' e' => ?_⟩
    rw [List.getElem?_map, hv] at e'
    obtain rfl : v = v' := Option.some.inj (Option.some.inj e')
    exact cellO_at ok q2
theorem Held.notown (x : Held cl fr ws H) {b y : Addr} (e : H b = some (.own y)) : b ∉ cs cl := fun z => by
  obtain ⟨v, q⟩ := x.all b z
  rw [e] at q
  unfold CellO at q
  cases q
theorem Held.nottup (x : Held cl fr ws H) {b : Addr} {ys : List V} (e : H b = some (.tup ys)) : b ∉ cs cl := fun z => by
  obtain ⟨v, q⟩ := x.all b z
  rw [e] at q
  unfold CellO at q
  cases q
theorem Held.off_ok (x : Held cl fr ws H) (ok : HOk P w H h) : HOk P w (off cl H) h := fun b o e => by
  by_cases hb : b ∈ cs cl
  · rw [off_in hb] at e; cases e
  · rw [off_out hb] at e
    exact (ok b o e).stay (fun _ _ _ q => q) (fun d q => by rw [off_out (x.notown q)]; exact q) fun d ys q => by rw [off_out (x.nottup q)]; exact q
theorem Held.env0 (x : Held cl fr ws H) (e0 : Env0 P w K mg base A outer s H) : Env0 P w K mg base A outer s (off cl H) :=
  ⟨e0.frames, e0.mod, fun b o e => ⟨(e0.bs b o e).1, off_none (e0.bs b o e).2⟩, e0.bsz, e0.funs, fun b hb => off_none (e0.frf b hb), x.off_ok e0.hok, e0.bare⟩
/-- behind the call -/
theorem Held.back (x : Held cl fr ws H) (e0 : Env0 P w K mg base A outer s H) {Q : VK} {u : Value} (c : CE outer P w (off cl H) s (fun v H' => Q v (on cl H H')) u s') : CE outer P w H s Q u s' := by
  obtain ⟨v, H', os, bare, un, ok', r, q⟩ := c
  have cell : ∀ b ∈ cs cl, ∃ v, H b = some (CellO b v) ∧ (∃ u, L2.RelV v u ∧ s'.heap.IsCell b (some u)) ∧ H' b = none := fun b hb => by
    obtain ⟨v, hv⟩ := x.all b hb
    obtain ⟨u, r, o, ho, hd⟩ := cellO_at e0.hok hv
    have nf : b ∉ frs outer := fun z => by rw [e0.frf b z] at hv; cases hv
    exact ⟨v, hv, ⟨u, r, o, un.keep b o ho (off_in hb) nf (by simp), hd⟩, un.free b o ho (off_in hb) (by simp)⟩
  have out : ∀ b o, H b = some o → (∀ v, o ≠ CellO b v) → b ∉ cs cl := fun b o e n z => by
    obtain ⟨v, hv⟩ := x.all b z
    rw [e] at hv
    exact n v (Option.some.inj hv)
  have nin : ∀ b, H b = none → b ∉ cs cl := fun b e z => by
    obtain ⟨v, hv⟩ := x.all b z
    rw [e] at hv; cases hv
  refine ⟨v, on cl H H', os, bare, ⟨fun b o e n => un.keep b o e (off_none n), fun b o e n => un.slot b o e (off_none n), fun b o e n hx => ?_, un.there, fun b ys e => ?_, fun b o u e => ?_, fun b ps e => ?_⟩, fun b o e => ?_, r, q⟩
  · rw [on_out (nin b n)]
    exact un.free b o e (off_none n) hx
  · have nb := x.nottup e
    rw [on_out nb]
    exact un.tups b ys (by rw [off_out nb]; exact e)
  · have nb := out b _ e fun v z => by unfold CellO at z; cases z
    rw [on_out nb]
    exact un.frzs b o u (by rw [off_out nb]; exact e)
  · have nb := out b _ e fun v z => by unfold CellO at z; cases z
    obtain ⟨more, z⟩ := un.tbls b ps (by rw [off_out nb]; exact e)
    exact ⟨more, by rw [on_out nb]; exact z⟩
  · by_cases hb : b ∈ cs cl
    · obtain ⟨v, hv, ⟨u, r, ic⟩, _⟩ := cell b hb
      rw [on_in hb, hv] at e
      cases e
      exact cellO_ok r ic
    · rw [on_out hb] at e
      refine (ok' b o e).stay (fun _ _ _ q => q) (fun d q => ?_) fun d ys q => ?_
      · rw [on_out fun z => by rw [(cell d z).choose_spec.2.2] at q; cases q]; exact q
      · rw [on_out fun z => by rw [(cell d z).choose_spec.2.2] at q; cases q]; exact q
theorem same_on (x : Held cl fr ws H) {H2 : Hp} (s : Same (off cl H) H2) : Same H (on cl H H2) := fun b o e => by
  by_cases hb : b ∈ cs cl
  · rw [on_in hb]; exact e
  · rw [on_out hb]; exact s b o (by rw [off_out hb]; exact e)
end
/-- all but the tables stay, and nothing is gone -/
structure Grow (H H' : Hp) : Prop where
  n : ExtN H H'
  f : ∀ b, H' b = none → H b = none
theorem Grow.refl (H : Hp) : Grow H H := ⟨ExtN.refl H, fun _ h => h⟩
theorem Grow.trans {H H1 H2 : Hp} (a : Grow H H1) (b : Grow H1 H2) : Grow H H2 := ⟨a.n.trans b.n, fun c h => a.f c (b.f c h)⟩
theorem Grow.of {H H' : Hp} (s : Same H H') : Grow H H' := ⟨.of s, fun _ h => s.free h⟩
/-! ### a thing that can be called -/
/-- f can be called with one argument: R tells of the argument and of the heap there whether it may be, and of the answer -/
def Cal (P : Program) (w : World) (K : PySem.W.Frag) (mg : Str → Option Value) (base : Heap) (k : Nat) (f : Addr) (R : V → Hp → V → Prop) (H : Hp) : Prop := ∀ H', ExtN H H' →
  (∀ h, HOk P w H' h → PySem.W.FnAt f h) ∧
    ∀ (A : Around) (outer : List Env) (s : Shared) (x : V) (u : Value) (y : V), Room k A → Env0 P w K mg base A outer s H' → L2.RelV x u → R x H' y →
      codeAny (model P w) A (.call (.ref f) ⟨[u], []⟩) (CR CX0 outer P w H' s (fun v H2 => v = y ∧ Same H' H2) E0) s
theorem Cal.ext {P : Program} {w : World} {K : PySem.W.Frag} {mg : Str → Option Value} {base : Heap} {k : Nat} {f : Addr} {R : V → Hp → V → Prop} {H H' : Hp} (c : Cal P w K mg base k f R H) (e : ExtN H H') : Cal P w K mg base k f R H' := fun H2 e2 => c H2 (e.trans e2)
theorem Cal.same {P : Program} {w : World} {K : PySem.W.Frag} {mg : Str → Option Value} {base : Heap} {k : Nat} {f : Addr} {R : V → Hp → V → Prop} {H H' : Hp} (c : Cal P w K mg base k f R H) (e : Same H H') : Cal P w K mg base k f R H' := c.ext (.of e)
/-- f(e), f a name of the running def -/
def tCal (P : Program) (w : World) (K : PySem.W.Frag) (mg : Str → Option Value) (base : Heap) (k i : Nat) (te : TE) : TE := fun σ H Q => ∃ (f : Addr) (R : V → Hp → V → Prop), σ[i]? = some (some (.ref f)) ∧ Cal P w K mg base k f R H ∧
  te σ H fun x H1 => ExtN H H1 ∧ ∃ y, R x H1 y ∧ ∀ H2, Same H1 H2 → Q y H2
def argQ (H : Hp) (R : V → Hp → V → Prop) (Q : VK) : List V → Hp → Prop := fun vs H1 => match vs with
  | [x] => ExtN H H1 ∧ ∃ y, R x H1 y ∧ ∀ H2, Same H1 H2 → Q y H2
  | _ => False
theorem argQ_one {H H1 : Hp} {R : V → Hp → V → Prop} {Q : VK} : ∀ {vs : List V}, argQ H R Q vs H1 → ∃ x, vs = [x] ∧ ExtN H H1 ∧ ∃ y, R x H1 y ∧ ∀ H2, Same H1 H2 → Q y H2
  | [x], h => ⟨x, rfl, h⟩
theorem vals_one {x : V} : ∀ {us : List Value}, Vals [x] us → ∃ v, us = [v] ∧ L2.RelV x v
  | _, .cons r .nil => ⟨_, rfl, r⟩
section
variable {X : Cx} {i j k : Nat} {x : Str} {te : TE} {e : Expr} {p pos : Pos}
theorem pe_cal (hr : Room k X.A) (hN : X.N[i]? = some x) (hv : Vis X.env.scope x) (ha : PE X e te) (hd : (x == ("__debug__" : Str)) = false := by decide) (hcd : (x == ("__classdict__" : Str)) = false := by decide)
    (he : starEach [e] X.env = (false, eval e X.env) :: starEach [] X.env := by rfl) (hpl : (backTo pos (starEach [] X.env)).any (·.1) = false := by rfl) :
    PE X (.Call (.Name x p) [e] [] pos) (tCal X.prog X.w X.K X.mg X.base k i te) := by
  refine ⟨fun pins s σ H Q I h => ?_⟩
  obtain ⟨f, R, hs, hf, ht⟩ := h
  refine wpAny_Call_Name_kw (thn ((pe_var (pos := p) hN hv hd hcd).run pins s σ H (fun v H1 => v = .ref f ∧ H1 = H) I ⟨.ref f, hs, rfl, rfl⟩) fun u s1 ⟨v, H1, I1, r1, q1⟩ => ?_)
  obtain ⟨ev, eH⟩ := q1
  subst ev
  rw [eH] at I1
  obtain rfl : u = Value.ref f := r1
  refine PySem.W.callWith_F (first := []) ((hf H (ExtN.refl H)).1 _ I1.hok) (thn ((pa_cons ha pa_nil (hs := he)).run pos pins s1 σ H (argQ H R Q) I1 ht) fun us s2 ⟨vs, H2, I2, r, q⟩ => ?_) he hpl
  obtain ⟨x, rfl, eN, y, hR, q⟩ := argQ_one q
  obtain ⟨v, rfl, r1⟩ := vals_one r
  obtain ⟨c1, c2⟩ := hf H2 eN
  refine ⟨c1 _ I2.hok, ?_⟩
  show wpAny _ _ (call (.ref f) [v]) _ _ _
  refine wpAny_call (codeAny_mono (c2 X.A X.stack s2 x v y hr I2.env0 r1 hR) fun r s' hq => ?_)
  cases r with
  | error e => exact False.elim hq
  | ok fl =>
    cases fl with
    | ret u =>
      obtain ⟨v', H', z1, z2, z3, z4, z5, ev, sm⟩ := hq
      subst ev
      exact I2.after ⟨v', H', z1, z2, z3, z4, z5, q H' sm⟩
    | next => exact False.elim hq
    | brk => exact False.elim hq
    | cont => exact False.elim hq
end
end HF
namespace HF
open PySem PySem.Spec PyProof.Rows L2 LamX NdefX
theorem fnO_cell {P : Program} {w : World} {H : Hp} {h : Heap} {f : Addr} {F : NF} {v : V} (ok : HOk P w H h) (e : H f = some (FnO f F)) (e2 : H f = some (CellO f v)) : False := by
  obtain ⟨od, sl, doc, pm, ctv, ho⟩ := fnO_at ok e
  obtain ⟨u, _, o, ho2, hd⟩ := cellO_at ok e2
  rw [ho] at ho2
  cases ho2
  cases hd
theorem codeO_cell {P : Program} {w : World} {H : Hp} {h : Heap} {c : Addr} {q : Str} {v : V} (ok : HOk P w H h) (e : H c = some (CodeO c q)) (e2 : H c = some (CellO c v)) : False := by
  obtain ⟨c2, oc, vs, t, e3, ho, hd1, _⟩ := codeO_at ok e
  cases e3
  obtain ⟨u, _, o, ho2, hd⟩ := cellO_at ok e2
  rw [ho] at ho2
  cases ho2
  rw [hd1] at hd
  cases hd
section
variable {P : Program} {w : World} {K : PySem.W.Frag} {mg : Str → Option Value} {base : Heap} {k : Nat} {f : Addr} {F : NF} {p : Str} {fr : List Str} {ws : List V} {sp : List (Option V) → Sp} {R : V → Hp → V → Prop} {H : Hp}
theorem cal_of (N : NOk P w K mg base CX0 k f F [p] fr sp) (hf : H f = some (FnO f F)) (hc : H F.c = some (CodeO F.c F.qual)) (x : Held F.cl fr ws H)
    (hR : ∀ H', ExtN H H' → ∀ v y, R v H' y → sp (ws.map some) [v] (off F.cl H') (fun r H2 => r = y ∧ Same H' (on F.cl H' H2)) E0) : Cal P w K mg base k f R H := by
  intro H' e
  have hf' := e _ _ hf fnO_ne
  have hc' := e _ _ hc codeO_ne
  have x' := x.ext e
  refine ⟨fun h ok => ?_, fun A outer s v u y hr e0 r h => ?_⟩
  · obtain ⟨od, sl, doc, pm, ctv, ho⟩ := fnO_at ok hf'
    exact ⟨_, od, _, sl, ho⟩
  · have nf : f ∉ cs F.cl := fun z => by
      obtain ⟨v, q⟩ := x'.all f z
      exact fnO_cell e0.hok hf' q
    have nc : F.c ∉ cs F.cl := fun z => by
      obtain ⟨v, q⟩ := x'.all _ z
      exact codeO_cell e0.hok hc' q
    refine codeAny_mono (N.run A outer s (off F.cl H') [u] [v] (ws.map some) _ E0 hr (x'.env0 e0) (by rw [off_out nf]; exact hf') (by rw [off_out nc]; exact hc') (x'.cells e0.hok) (.cons r .nil) (hR H' e v y h)) fun r s' hq => ?_
    cases r with
    | error e => exact hq
    | ok fl =>
      cases fl with
      | ret u => exact x'.back e0 (Q := fun v H2 => v = y ∧ Same H' H2) hq
      | next => exact hq
      | brk => exact hq
      | cont => exact hq
end
/-! ### the cells behind a def's end -/
section
variable {P : Program} {w : World} {cl : List (Str × Addr)} {fr : List Str} {ws : List V} {H : Hp} {h : Heap}
open Classical in
/-- the cells hold what they held at the end -/
noncomputable def lay (cl : List (Str × Addr)) (ws : List V) (H : Hp) : Hp := fun b => if q : ∃ (v : V) (i : Nat), (cs cl)[i]? = some b ∧ ws[i]? = some v then some (CellO b q.choose) else H b
theorem look_at : ∀ {l : List (Str × Addr)} {i : Nat} {y : Str} {c : Addr}, (l.map (·.1)).Nodup → l[i]? = some (y, c) → l.lookup y = some c
  | [], _, _, _, _, e => by simp at e
  | (y0, c0) :: l, 0, y, c, nd, e => by
    simp at e
    obtain ⟨rfl, rfl⟩ := e
    simp [List.lookup]
  | (y0, c0) :: l, i + 1, y, c, nd, e => by
    have e : l[i]? = some (y, c) := by simpa using e
    have nd : y0 ∉ l.map (·.1) ∧ (l.map (·.1)).Nodup := List.nodup_cons.mp nd
    have ne : (y == y0) = false := by
      apply beq_eq_false_iff_ne.mpr
      rintro rfl
      exact nd.1 (List.mem_map.mpr ⟨_, List.mem_of_getElem? e, rfl⟩)
    show (match y == y0 with | true => some c0 | false => l.lookup y) = some c
    rw [ne]
    exact look_at nd.2 e
theorem lay_held (hn : cl.map (·.1) = fr) (nd : fr.Nodup) (C : CellsAt cl fr (ws.map some) h H) (ok : HOk P w H h) :
    Held cl fr ws (lay cl ws H) ∧ HOk P w (lay cl ws H) h ∧ (∀ b o, H b = some o → lay cl ws H b = some o) ∧ ∀ b, b ∉ cs cl → lay cl ws H b = H b := by
  have len : ws.length = fr.length := by have := C.len; rwa [List.length_map] at this
  have lcl : cl.length = fr.length := by rw [← hn, List.length_map]
  have at_ : ∀ {i : Nat} {c : Addr}, (cs cl)[i]? = some c → ∃ y v, fr[i]? = some y ∧ ws[i]? = some v ∧ cl.lookup y = some c := fun {i c} e => by
    unfold cs at e
    rw [List.getElem?_map] at e
    obtain ⟨⟨y, c2⟩, e1, e2⟩ := Option.map_eq_some_iff.mp e
    have e2 : c2 = c := e2
    subst e2
    have hi : i < ws.length := by
      have := (List.getElem?_eq_some_iff.mp e1).1
      omega
    refine ⟨y, ws[i], ?_, List.getElem?_eq_getElem hi, look_at (by rw [hn]; exact nd) e1⟩
    rw [← hn, List.getElem?_map, e1]
    rfl
  have one : ∀ {i j : Nat} {c : Addr}, (cs cl)[i]? = some c → (cs cl)[j]? = some c → i = j := fun {i j c} e1 e2 => by
    obtain ⟨y1, _, f1, _, l1⟩ := at_ e1
    obtain ⟨y2, _, f2, _, l2⟩ := at_ e2
    obtain rfl := C.inj _ _ _ l1 l2
    exact (List.getElem?_inj (List.getElem?_eq_some_iff.mp f1).1 nd).mp (f1.trans f2.symm)
  have val : ∀ {i : Nat} {c : Addr} {v : V}, (cs cl)[i]? = some c → ws[i]? = some v → lay cl ws H c = some (CellO c v) := fun {i c v} e1 e2 => by
    have q : ∃ (v : V) (i : Nat), (cs cl)[i]? = some c ∧ ws[i]? = some v := ⟨v, i, e1, e2⟩
    have z : lay cl ws H c = some (CellO c q.choose) := by unfold lay; exact dif_pos q
    obtain ⟨j, e3, e4⟩ := q.choose_spec
    obtain rfl := one e1 e3
    rw [e2] at e4
    rw [z, ← Option.some.inj e4]
  have out : ∀ b, b ∉ cs cl → lay cl ws H b = H b := fun b nb => by
    unfold lay
    exact dif_neg fun ⟨_, _, e, _⟩ => nb (List.mem_of_getElem? e)
  have inn : ∀ c ∈ cs cl, ∃ v i, (cs cl)[i]? = some c ∧ ws[i]? = some v ∧ H c = none ∧ ∃ u, L2.RelV v u ∧ h.IsCell c (some u) := fun c hc => by
    obtain ⟨i, e⟩ := List.mem_iff_getElem?.mp hc
    obtain ⟨y, v, f1, w1, l1⟩ := at_ e
    obtain ⟨c2, l2, hv⟩ := C.has i y f1
    rw [l1] at l2
    cases l2
    exact ⟨v, i, e, w1, (C.all y c l1).1, hv v (by rw [List.getElem?_map, w1]; rfl)⟩
  have keep : ∀ b o, H b = some o → lay cl ws H b = some o := fun b o e => by
    rw [out b fun z => ?_]
    · exact e
    · obtain ⟨_, _, _, _, n, _⟩ := inn b z
      rw [e] at n; cases n
  refine ⟨⟨len, fun c hc => ?_, C.inj, fun i y v e1 e2 => ?_⟩, fun b o e => ?_, keep, out⟩
  · obtain ⟨v, i, e1, e2, _⟩ := inn c hc
    exact ⟨v, val e1 e2⟩
  · obtain ⟨c, l, _⟩ := C.has i y e1
    have hi : i < cl.length := by
      have := (List.getElem?_eq_some_iff.mp e1).1
      omega
    have ec : (cs cl)[i]? = some (cl[i]).2 := by unfold cs; rw [List.getElem?_map, List.getElem?_eq_getElem hi]; rfl
    obtain ⟨y2, _, f2, _, l2⟩ := at_ ec
    rw [e1] at f2
    cases f2
    exact ⟨_, l2, val ec e2⟩
  · by_cases hb : b ∈ cs cl
    · obtain ⟨v, i, e1, e2, _, u, r, ic⟩ := inn b hb
      rw [val e1 e2] at e
      cases e
      exact cellO_ok r ic
    · rw [out b hb] at e
      exact (ok b o e).stay (fun _ _ _ q => q) (fun d q => keep _ _ q) fun d ys q => keep _ _ q
end
end HF
namespace HF
open PySem PySem.Spec PyProof.Rows L2 LamX NdefX
/-! ### a def that makes a def and tells it back -/
section
variable {P : Program} {w : World} {K : PySem.W.Frag} {mg : Str → Option Value} {base : Heap} {x qual name : Str} {sF st : Stmt} {f c Pt : Addr} {fd : FuncData} {N ps fr : List Str} {js : List Nat} {T : List NTab} {nm : Nat → Nat → Str} {pos p1 p2 : Pos} {i k : Nat} {sp : Sp}
theorem fn_told (F : Fun K x qual sF f fd) (hc : fd.code = .ref c) (S : FnScope N ps (defScope sF)) (len : ∀ vs H Q E, sp vs H Q E → vs.length = ps.length) (hbd : defBody sF = [st, .Return (some (.Name name p1)) p2])
    (hst : st = .FunctionDef name (C8.fnArgs st) (C8.fnBody st) [] none [] (C8.fnScope st) none name pos) (TB : TabB base mg c Pt) (hm : (Pt, nm) ∈ T) (hn : nm pos.line pos.col = qual ++ ".<locals>." ++ name) (hu : ∀ p ∈ T, p.1 = Pt → p.2 = nm)
    (hD : ndefB (defScope sF) (C8.fnScope st) fr = true) (hd0 : (C8.fnArgs st).defaults = []) (hk0 : (C8.fnArgs st).kw_defaults = []) (han : ∀ env, annTrees (C8.fnArgs st) none env = [])
    (hi : N[i]? = some name) (hx : Loc (defScope sF) name) (hd : (name == ("__debug__" : Str)) = false) (hcdd : (name == ("__classdict__" : Str)) = false) (hfr : ∀ cells, (cloFrom cells (C8.fnScope st).names []).map (·.1) = fr) (nd : fr.Nodup) (hjs : js.map (fun j => N[j]?) = fr.map some)
    (hsp : ∀ vs H Q E, sp vs H Q E → TabsN T H ∧ ∃ ws : List V, (∀ f' : Addr, js.map (slotAt ((L2.start N vs).set i (some (.ref f')))) = ws.map some) ∧ ∀ (cl : List (Str × Addr)) (c' f' : Addr) (H' : Hp), Grow H H' → TabsN T H' → H f' = none →
      H' f' = some (FnO f' (NF.of st name (qual ++ ".<locals>." ++ name) cl c')) → H' c' = some (CodeO c' (qual ++ ".<locals>." ++ name)) → Held cl fr ws H' → Q (.ref f') H') :
    FnOk P w K mg base CX0 (k + 1) f fd ps sp := by
  obtain ⟨oc, od, kV, doc, pm, an, cdv, ct, osl, rfl, lk, hcd⟩ := F.ex
  have hc : cdv = .ref c := hc
  refine ⟨len, fun A outer s H args us vs Q E hr e0 hb r hs => ?_⟩
  have hl := len _ _ _ _ hs
  have KX : K.In s.heap := e0.mod.kin.keeps fun b o e => (e0.bs b o e).1
  have lim : s.heap.NoLimit := e0.mod.nolimit.keeps fun b o e => (e0.bs b o e).1
  obtain ⟨hT, ws, hws, hq⟩ := hsp _ _ _ _ hs
  refine codeAny_call_function hr.depth (KX _ _ lk) rfl S.co S.gen rfl (PySem.W.codeRec_of KX hcd) (hb _ _ _ _ ?_)
  refine wpAny_newFunctionEnv_cells S.kind (fun y hy => ?_) fun env he s1 xx => ?_
  · rcases S.par y.1 (List.of_mem_zip hy).1 with q | q
    · exact .inl q
    · exact .inr ⟨q, PySem.W.cellsFrom_some _ _ _ (.inl q)⟩
  subst he
  refine ⟨lim.keeps xx.toInCall.keep, codeAny_func ?_⟩
  have I : L2.Inv (cxOf CX0 P w K mg base N qual (defScope sF) f cdv A outer s H E) [] (L2.start N vs) H s1 := inv_start S hr.hd e0 hl r xx
  rw [hbd]
  have mk := ps_ndefMS (X := cxOf CX0 P w K mg base N qual (defScope sF) f cdv A outer s H E) (T := T) (nm := nm) (c := c) (P := Pt) (i := i) hst TB hc hm hn hu (ndef_free hD) hd0 hk0 (han _) S.nd hi hx (.inl rfl)
  refine wpAny_execs_cons (wpAny_mono (mk.run [] s1 (L2.start N vs) H { nx := fun σ' H' => ∃ f' c', σ' = (L2.start N vs).set i (some (.ref f')) ∧ Grow H H' ∧ TabsN T H' ∧ H f' = none ∧ H' f' = some (FnO f' (NF.of st name (qual ++ ".<locals>." ++ name) (cloFrom (cellsFrom (s.heap.objs.size + 1) (defScope sF).names []) (C8.fnScope st).names []) c')) ∧ H' c' = some (CodeO c' (qual ++ ".<locals>." ++ name)), rt := fun _ _ => False } I
      ⟨hT, fun f' c' H1 eN nn T1 n f1 c1 => ⟨f', c', rfl, ⟨eN, nn⟩, T1, n, f1, c1⟩⟩) (fun fl s2 q => ?_) fun e s' h => h)
  cases fl with
  | next =>
    obtain ⟨σ', H', I2, f', c', rfl, eN, T1, nf, f1, c1⟩ := q
    have slot : ((L2.start N vs).set i (some (V.ref f')))[i]? = some (some (V.ref f')) := by
      have hlen : (L2.start N vs).length = N.length := I.len
      have := (List.getElem?_eq_some_iff.mp hi).1
      rw [List.getElem?_set_self (by omega)]
    refine wpAny_execs_cons (wpAny_Return_some (wpAny_mono ((pe_var (pos := p1) hi (hx.elim .inl fun z => .inr (.inl z)) hd hcdd).run [] s2 _ H' (fun v H2 => v = .ref f' ∧ H2 = H') I2 ⟨.ref f', slot, rfl, rfl⟩) (fun u s3 q => ?_) fun e s' h => h))
    obtain ⟨v, H3, I3, r3, ev, eH⟩ := q
    subst ev
    subst eH
    have C := cells_of I3 (Caps.made (fr := fr) (js := js) I3.ok (ndef_free hD) (ndef_fr hD) hjs)
    rw [hws f'] at C
    obtain ⟨held, ok, keep, out⟩ := lay_held (hfr _) nd C I3.hok
    refine ⟨.ref f', lay _ ws H3, I3.os, I3.bare, ?_, ok, r3, hq _ c' f' _ (eN.trans (.of keep)) (T1.ext keep) nf (keep _ _ f1) (keep _ _ c1) held⟩
    have B := I3.base
    refine ⟨B.keep, B.slot, fun b o e n hx => ?_, B.there, fun b ys e => keep _ _ (B.tups b ys e), fun b o u e => keep _ _ (B.frzs b o u e), fun b pp e => ?_⟩
    · rw [out b fun z => ?_]
      · exact B.free b o e n hx
      · obtain ⟨⟨y, b2⟩, hy, e2⟩ := List.mem_map.mp z
        have e2 : b2 = b := e2
        subst e2
        obtain ⟨j, hj⟩ := List.mem_iff_getElem?.mp hy
        have l2 := look_at (by rw [hfr]; exact nd) hj
        have ab := I3.ok.cab y b2 rfl (clo_cm (fun y hy e => (ndef_free hD y hy e).elim (fun z => I3.ok.has _ (.inl z)) fun z => I3.ok.has _ (.inr z)) l2)
        exact absurd (Nat.lt_of_lt_of_le (Heap.lt_size e) ab) (Nat.lt_irrefl _)
    · obtain ⟨more, z⟩ := B.tbls b pp e
      exact ⟨more, keep _ _ z⟩
  | ret u => obtain ⟨_, _, _, _, _, z⟩ := q; exact False.elim z
  | brk => obtain ⟨_, _, _, z⟩ := q; exact False.elim z
  | cont => obtain ⟨_, _, _, z⟩ := q; exact False.elim z
end
end HF
namespace L2.TB
open PySem PySem.Spec PyProof.Rows
open HF NdefX LamX
/-! the teller of a file's sets of places -/
theorem TRows.ext {H H' : Hp} {ra : Addr} {n : Nat} {tbl : List (List Int)} (t : TRows H ra n tbl) (s : ExtN H H') : TRows H' ra n tbl := by
  obtain ⟨ps, o, r⟩ := t
  exact ⟨ps, s _ _ o (fun _ z => by cases z), Paired.mapP r fun p vs h => ⟨s _ _ h.1 (fun _ z => by cases z), h.2⟩⟩
theorem TabAt.ext {H H' : Hp} {C a : Addr} {ns : List Str} {tbl : List (List Int)} (t : TabAt H C a ns tbl) (s : ExtN H H') : TabAt H' C a ns tbl := by
  obtain ⟨dx, qa, ra, h1, h2, h3⟩ := t.ex
  exact ⟨dx, qa, ra, s _ _ h1 (fun _ z => by cases z), s _ _ h2 (fun _ z => by cases z), h3.ext s⟩
/-- a table, the questions of which files are made, the one asked -/
structure Own (H : Hp) (C a b : Addr) (ns own : List Str) (tbl : List (List Int)) (x : Str) : Prop where
  t : TabAt H C a ns tbl
  o : H b = some (.lst (own.map V.str))
  nd : own.Nodup
  sub : ∀ y ∈ own, y ∈ ns
  s1 : ns.length < 1000
  s2 : tbl.length < 1000
  ndn : ns.Nodup
  xin : x ∈ ns
theorem Own.ext {H H' : Hp} {C a b : Addr} {ns own : List Str} {tbl : List (List Int)} {x : Str} (h : Own H C a b ns own tbl x) (s : ExtN H H') : Own H' C a b ns own tbl x :=
  ⟨h.t.ext s, s _ _ h.o (fun _ z => by cases z), h.nd, h.sub, h.s1, h.s2, h.ndn, h.xin⟩
theorem Own.same {H H' : Hp} {C a b : Addr} {ns own : List Str} {tbl : List (List Int)} {x : Str} (h : Own H C a b ns own tbl x) (s : Same H H') : Own H' C a b ns own tbl x := h.ext (.of s)
theorem Own.short {H : Hp} {C a b : Addr} {ns own : List Str} {tbl : List (List Int)} {x : Str} (h : Own H C a b ns own tbl x) : own.length < 1000 := by
  have := List.Nodup.length_le_of_subset h.nd (fun x hx => h.sub x hx)
  have := h.s1
  omega
theorem atP_nd {own : List Str} (nd : own.Nodup) : ∀ {ps : List Nat}, ps.Nodup → (∀ p ∈ ps, p < own.length) → (atP own ps).Nodup := by
  intro ps hp lt
  unfold atP
  unfold List.Nodup
  rw [List.pairwise_map]
  refine List.Pairwise.imp_of_mem (fun {p q} hp hq ne e => ne ?_) hp
  rw [List.getD_eq_getElem?_getD, List.getD_eq_getElem?_getD, List.getElem?_eq_getElem (lt p hp), List.getElem?_eq_getElem (lt q hq)] at e
  exact (List.getElem?_inj (lt p hp) nd).mp (by rw [List.getElem?_eq_getElem (lt p hp), List.getElem?_eq_getElem (lt q hq)]; exact congrArg some e)
theorem atP_sub {own : List Str} {ps : List Nat} (lt : ∀ p ∈ ps, p < own.length) : ∀ y ∈ atP own ps, y ∈ own := fun y hy => by
  obtain ⟨p, hp, rfl⟩ := List.mem_map.mp hy
  rw [List.getD_eq_getElem?_getD, List.getElem?_eq_getElem (lt p hp)]
  exact List.getElem_mem _
theorem places_short {n : Nat} {ps : List Nat} (nd : ps.Nodup) (lt : ∀ p ∈ ps, p < n) : ps.length ≤ n := by
  have := List.Nodup.length_le_of_subset nd (l₂ := List.range n) fun p hp => List.mem_range.mpr (lt p hp)
  rwa [List.length_range] at this
def placesV (ps : List Nat) : List V := ps.map fun q => V.int (q : Nat)
def TellR (n : Nat) (p : List Nat → Bool) : V → Hp → V → Prop := fun v H y => ∃ (d : Addr) (ps : List Nat), v = .ref d ∧ H d = some (.lst (placesV ps)) ∧ (∀ q ∈ ps, q < n) ∧ ps.Nodup ∧ y = .bl (p ps)
theorem same_off {cl : List (Str × Addr)} {fr : List Str} {ws : List V} {H : Hp} (h : Held cl fr ws H) {b : Addr} {o : HO} (e : H b = some o) (n : ∀ v, o ≠ CellO b v) : HF.off cl H b = some o := by
  rw [off_out fun z => ?_]
  · exact e
  · obtain ⟨v, q⟩ := h.all b z
    rw [e] at q
    exact n v (Option.some.inj q)
end L2.TB
namespace L2.TB
open PySem PySem.Spec PyProof.Rows
open HF NdefX LamX
/-! which masks tell -/
theorem two_pow_le {m : Nat} (h : m ≤ 10) : 2 ^ m ≤ 1024 := Nat.le_trans (Nat.pow_le_pow_right (by decide) h) (by decide)
theorem hasB_sub {mask p : Nat} (h : hasB mask p = true) : 2 ^ p ≤ mask := by
  unfold hasB at h
  have h := of_decide_eq_true h
  have := Nat.div_mul_le_self mask (2 ^ p)
  by_cases c : mask / 2 ^ p = 0
  · rw [c] at h; cases h
  · exact Nat.le_trans (by simpa using Nat.mul_le_mul_right (2 ^ p) (Nat.one_le_iff_ne_zero.mpr c)) this
/-- masks with one place more tell no less -/
def UpP (many : Nat) (p : List Nat → Bool) : Prop := ∀ mask q, mask < 2 ^ many → q < many → hasB mask q = true → p (bitsL many (mask - 2 ^ q)) = true → p (bitsL many mask) = true
def tellings (many : Nat) (p : List Nat → Bool) : List Bool := (List.range (2 ^ many)).map fun m => p (bitsL many m)
theorem tellings_at {many m : Nat} {p : List Nat → Bool} (h : m < 2 ^ many) : (tellings many p)[m]? = some (p (bitsL many m)) := by
  unfold tellings
  rw [List.getElem?_map, List.getElem?_range h]
  rfl
theorem bits_nd {many m : Nat} : (bitsL many m).Nodup := List.nodup_range.filter _
def spTellings (P : Program) (w : World) (K : PySem.W.Frag) (mg : Str → Option Value) (base : Heap) : Sp := fun vs H Q _ => ∃ (many : Nat) (g : Addr) (p : List Nat → Bool), vs = [.int (many : Nat), .ref g] ∧ many ≤ 10 ∧ Cal P w K mg base 6 g (TellR many p) H ∧ UpP many p ∧
  ∀ H' q, H q = none → H' q = some (.lst ((tellings many p).map V.bl)) → Same H H' → Q (.ref q) H'
abbrev rShlN : R2 := fun x y H Q => ∃ (i : Int) (k : Nat), x = .int i ∧ y = .int (k : Int) ∧ CShl i (k : Int) ∧ Q (.int (i * 2 ^ k)) H
abbrev rSubI : R2 := rI0 fun i j => .int (i - j)
abbrev NTs : List Str := ["many", "tells", "out", "mask", "less", "place", "part"]
theorem scTs : FnScope NTs ["many", "tells"] (defScope sTellings) := ⟨rfl, rfl, rfl, by decide +kernel, rfl, by decide +kernel, by decide +kernel⟩
section
variable {P : Program} {w : World} {K : PySem.W.Frag} {mg : Str → Option Value} {base : Heap} {f fB : Addr} {fd fdB : FuncData}
theorem ok_tellings (F : Fun K "_tellings" "_tellings" sTellings f fd) (FB : Fun K "_places" "_places" sBits fB fdB) (gB : mg "_places" = some (.ref fB)) (gR : mg "range" = none) (gY : mg "any" = none) :
    FnOk P w K mg base CX0 7 f fd ["many", "tells"] (spTellings P w K mg base) := by
  have GB := ok_bits (P := P) (w := w) (base := base) FB gR
  have bB := FB.binds (ps := ["many", "mask"]) fun _ _ _ _ _ _ us hl => match us, hl with | [_, _], _ => rfl
  refine F.ok scTs (fun vs H Q E h => by obtain ⟨many, g, p, e, _⟩ := h; rw [e]; rfl) fun cdv A outer s H vs Q E hr hsp => ?_
  obtain ⟨many, g, p, rfl, few, hc, up, hq⟩ := hsp
  have nd := scTs.nd
  have p2 := two_pow_le few
  refine ⟨_, pss_cons (ps_set (i := 2) nd rfl (Or.inr rfl) (pe_lst pa_nil))
    (pss_cons (ps_for PassesOwn.never rfl (pi_range1 rfl gR (pa_cons (pe_op (r := rShlN) op_shlN pe_int (pv 0)) pa_nil)) (pg_name (i := 3) nd rfl (Or.inr rfl))
      (pss_cons (ps_setLc (i := 4) (own := [("place", 5)]) (g := gName 5) (te := tOp rSubI (tVar 3) (tOp rShlN (tC (.int 1)) (tVar 5))) (tt := tBit K 3 5) rfl nd rfl rfl (sw_true rfl rfl rfl rfl) (pi_range1 rfl gR (pa_cons (pv 0) pa_nil)) (blkOk_by (N := NTs) (sc := defScope sTellings) (by decide +kernel)) (fun _ _ _ _ _ => pg_name (i := 5) nd rfl (Or.inl rfl))
        (fun _ _ _ _ _ => pts_one (pt_truth (pe_op (r := rOdd) op_odd (pe_op (r := rShrN) op_shrN (pv 3) (pv 5)) pe_int) (fun _ => rfl))) (fun _ _ _ _ _ => pe_op (r := rSubI) op_sub (pv 3) (pe_op (r := rShlN) op_shlN pe_int (pv 5))))
      (pss_one (ps_if (pt_val (pe_callB (r := rAny K) (cr_any rfl) rfl gY boot_any' (pa_cons (pe_lc (own := [("part", 6)]) (tt := tYes) (g := gName 6) (te := tOp (rIxL K) (tVar 2) (tVar 6)) rfl nd (pi_list (pv 4)) (blkOk_by (N := NTs) (sc := defScope sTellings) (by decide +kernel)) (fun _ _ _ _ _ => pg_name (i := 6) nd rfl (Or.inl rfl)) (fun _ _ _ _ _ => pts_nil)
          (fun _ _ _ _ _ => pe_ix (r := rIxL K) ix_list (pv 2) (pv 6) (fun _ _ => rfl))) pa_nil)))
        (pss_one (ps_expr (pe_bm PySem.F.plainAttrs_list PySem.F.slot_list_append PySem.F.type_list_append mt_append (pv 2) (pa_cons pe_bl pa_nil))))
        (pss_one (ps_expr (pe_bm PySem.F.plainAttrs_list PySem.F.slot_list_append PySem.F.type_list_append mt_append (pv 2) (pa_cons (pe_cal (k := 6) (i := 1) (x := "tells") (hr.mono (by decide)) rfl (Or.inl rfl) (pe_call GB (hr.mono (by decide)) rfl gB FB.kp bB .nil pass0 (pa_cons (pv 0) (pa_cons (pv 3) pa_nil)))) pa_nil))))))))
    (pss_one (ps_ret (pv 2)))), ?_⟩
  refine ⟨Nat.zero_le _, fun q nq => ?_⟩
  have shl : ∀ j : Nat, j ≤ 10 → CShl (1 : Int) (j : Int) := fun j hj => shl_ok (n := 1) (by decide) (by omega)
  have e2 : ∀ j : Nat, (1 : Int) * 2 ^ j = ((2 ^ j : Nat) : Int) := fun j => by simp
  have apnd : ∀ (m : Nat), m < 2 ^ many → ((tellings many p).take m ++ [p (bitsL many m)]).map V.bl = ((tellings many p).take m).map V.bl ++ [V.bl (p (bitsL many m))] := fun m _ => by rw [List.map_append]; rfl
  have tk : ∀ (m : Nat), m < 2 ^ many → (tellings many p).take (m + 1) = (tellings many p).take m ++ [p (bitsL many m)] := fun m h => by rw [List.take_succ, tellings_at h]; rfl
  refine ⟨_, rfl, 1, many, rfl, rfl, shl many few, ?_⟩
  rw [e2]
  have pw0 : (0 : Int) ≤ ((2 ^ many : Nat) : Int) := Int.natCast_nonneg _
  have pw1 : ((2 ^ many : Nat) : Int) ≤ 1024 := Int.ofNat_le.mpr p2
  refine ⟨((2 ^ many : Nat) : Int), rfl, Int.le_trans (by decide) pw0, Int.lt_of_le_of_lt pw1 (by decide), for_range (n := 2 ^ many) (fun i σ H' => H' q = some (.lst (((tellings many p).take i).map V.bl)) ∧ Same H H' ∧ ∃ s3 s4 s5 s6, σ = [some (.int (many : Nat)), some (.ref g), some (.ref q), s3, s4, s5, s6])
    ⟨upd_same, same_new nq, _, _, _, _, rfl⟩ ?_ ?_⟩
  · rintro i σ H1 hi ⟨oq, k1, s3, s4, s5, s6, rfl⟩
    have ei : ((0 : Int) + (i : Nat)) = ((i : Nat) : Int) := by omega
    rw [ei]
    have hlt : ∀ pl, hasB i pl = true → 2 ^ pl ≤ i ∧ i - 2 ^ pl < i := fun pl h => by
      have h1 := hasB_sub h
      have h2 := Nat.two_pow_pos pl
      omega
    -- one place less
    refine ⟨_, rfl, (many : Int), rfl, by omega, by omega, ?_⟩
    refine lc_genO ((List.range many).map fun pl => if hasB i pl = true then some (V.int ((i - 2 ^ pl : Nat) : Int)) else none) (by rw [List.length_map, List.length_range]; omega) (fun j H' s lt => ?_) (fun H' s => ?_) ?_ ?_
    · rw [List.length_map, List.length_range] at lt
      show j < _
      simpa using lt
    · rw [List.length_map, List.length_range]
      show _ ≤ _
      simp
    · rintro j v o H2 H3 Cn Nn eo s2 ⟨rfl, rfl⟩ yes no
      have lt : j < many := by
        have := (List.getElem?_eq_some_iff.mp eo).1
        simpa using this
      rw [List.getElem?_map, List.getElem?_range lt] at eo
      obtain rfl := Option.some.inj eo
      refine ⟨rfl, ?_⟩
      have e : (i : Int) / 2 ^ j = ((i / 2 ^ j : Nat) : Int) := by simp
      refine ⟨_, rfl, _, rfl, (i : Int), j, rfl, by simp, i / 2 ^ j, by rw [e], rfl, hasB i j, ?_, ?_⟩
      · show hasB i j = (((i / 2 ^ j % 2 : Nat) : Int) != 0)
        unfold hasB
        by_cases c : i / 2 ^ j % 2 = 1
        · rw [decide_eq_true c, c]; rfl
        · have c0 : i / 2 ^ j % 2 = 0 := by omega
          rw [decide_eq_false c, c0]; rfl
      · cases c : hasB i j with
        | true =>
          have hl := hlt j c
          have e0 : (0 : Int) + (j : Nat) = ((j : Nat) : Int) := by omega
          refine ⟨_, rfl, _, rfl, 1, j, rfl, by rw [e0], shl j (by omega), (i : Int), 1 * 2 ^ j, rfl, rfl, ?_⟩
          have ev : (i : Int) - 1 * 2 ^ j = ((i - 2 ^ j : Nat) : Int) := by rw [e2]; omega
          show Cn (V.int ((i : Int) - 1 * 2 ^ j)) H3
          rw [ev]
          exact yes _ (by show (if hasB i j = true then _ else _) = _; rw [if_pos c]) _ (Same.refl _)
        | false => exact no (by show (if hasB i j = true then _ else _) = _; rw [if_neg (by rw [c]; simp)]) _ (Same.refl _)
    intro H2 L nL oL k2
    rw [opt_list] at oL
    have oL : H2 L = some (.lst ((bitsL many i).map fun pl => V.int ((i - 2 ^ pl : Nat) : Int))) := oL
    have lb : (bitsL many i).length ≤ many := by
      have := List.length_filter_le (hasB i) (List.range many)
      rw [List.length_range] at this
      exact this
    have oq2 := k2 _ _ oq
    have bit : ∀ {pl : Nat}, pl ∈ bitsL many i → pl < many ∧ hasB i pl = true := fun {pl} h => by
      obtain ⟨h1, h2⟩ := List.mem_filter.mp h
      exact ⟨List.mem_range.mp h1, h2⟩
    -- whether one of them tells
    refine ⟨_, rfl, L, rfl, ⟨_, SqL.of oL⟩, ?_⟩
    refine lc_gen ((bitsL many i).map fun pl => V.bl (p (bitsL many (i - 2 ^ pl)))) (by rw [List.length_map]; omega) (fun j H' s lt => ⟨_, _, SqL.of (s _ _ oL), List.getElem?_eq_getElem (by rw [List.length_map]; rw [List.length_map] at lt; exact lt)⟩) (fun H' s => ⟨_, SqL.of (s _ _ oL), by rw [List.length_map, List.length_map]; exact Nat.le_refl _⟩) ?_ ?_
    · rintro j v y H3 H4 Cn Nn ey s3 ⟨rfl, ev⟩ yes
      have ev := ev _ (SqL.of (s3 _ _ oL))
      rw [List.getElem?_map] at ev ey
      obtain ⟨pl, ep, rfl⟩ := Option.map_eq_some_iff.mp ev
      rw [ep] at ey
      obtain rfl : V.bl (p (bitsL many (i - 2 ^ pl))) = y := Option.some.inj ey
      obtain ⟨b1, b2⟩ := bit (List.mem_of_getElem? ep)
      have hl := hlt pl b2
      refine ⟨rfl, ?_⟩
      refine ⟨_, rfl, _, rfl, _, _, _, _, rfl, rfl, SqL.of (s3 _ _ oq2), atI_nat (v := V.bl (p (bitsL many (i - 2 ^ pl)))) ?_, yes _ (Same.refl _)⟩
      rw [List.getElem?_map, List.getElem?_take_of_lt (by omega), tellings_at (by omega)]
      rfl
    intro H3 D nD oD k3
    have oD : H3 D = some (.lst (((bitsL many i).map fun pl => p (bitsL many (i - 2 ^ pl))).map V.bl)) := by rw [oD, List.map_map]; rfl
    refine ⟨D, _, rfl, SqL.of oD, _, rfl, ?_⟩
    have k123 := (k1.trans k2).trans k3
    have oq3 := k3 _ _ oq2
    have len : (((tellings many p).take i).map V.bl).length < sizeLine := by
      rw [sizeLine_eq, List.length_map, List.length_take]
      omega
    cases c : ((bitsL many i).map fun pl => p (bitsL many (i - 2 ^ pl))).any id with
    | true =>
      have yes : p (bitsL many i) = true := by
        obtain ⟨b, hb, hb2⟩ := List.any_eq_true.mp c
        obtain ⟨pl, hp, rfl⟩ := List.mem_map.mp hb
        obtain ⟨b1, b2⟩ := bit hp
        exact up i pl hi b1 b2 hb2
      refine iteT ?_
      refine ⟨_, rfl, .inl ⟨rfl, _, SqL.of oq3⟩, q, _, _, rfl, rfl, oq3, len, ?_, ?_, _, _, _, _, rfl⟩
      · rw [upd_same, tk i hi, apnd i hi, yes]
      · exact fun b o e => by rw [upd_ne (ne_of_none e nq)]; exact k123 _ _ e
    | false =>
      refine iteF ?_
      refine ⟨_, rfl, .inl ⟨rfl, _, SqL.of oq3⟩, g, _, rfl, hc.same k123, ?_⟩
      refine ⟨_, rfl, _, rfl, many, i, rfl, by omega, fun H4 d nd4 od k4 => ?_⟩
      refine ⟨.of k4, .bl (p (bitsL many i)), ⟨d, bitsL many i, rfl, od, fun pl hp => (bit hp).1, bits_nd, rfl⟩, fun H5 k5 => ?_⟩
      have oq5 := k5 _ _ (k4 _ _ oq3)
      refine ⟨q, _, _, rfl, rfl, oq5, len, ?_, ?_, _, _, _, _, rfl⟩
      · rw [upd_same, tk i hi, apnd i hi]
      · exact fun b o e => by rw [upd_ne (ne_of_none e nq)]; exact k5 _ _ (k4 _ _ (k123 _ _ e))
  · rintro σ H1 ⟨oq, k1, s3, s4, s5, s6, rfl⟩
    have et : (tellings many p).take (2 ^ many) = tellings many p := List.take_of_length_le (by unfold tellings; rw [List.length_map, List.length_range]; exact Nat.le_refl _)
    rw [et] at oq
    exact ⟨_, rfl, hq H1 q nq oq k1⟩
end
end L2.TB
/-! sorted(xs, key=f), f anything that can be called: its keys read as data of one kind -/
namespace HF
open PySem PySem.Spec PyProof.Rows PySem.W L2 LamX NdefX L2.TB
theorem sqT_same {K : PySem.W.Frag} {H H' : Hp} {a : Addr} {xs : List V} (e : Same H H') (h : SqT K H a xs) : SqT K H' a xs := by
  rcases h with (h | ⟨o, h⟩) | h
  · exact .inl (.inl (e _ _ h))
  · exact .inl (.inr ⟨o, e _ _ h⟩)
  · exact .inr h
mutual
theorem dp_same {K : PySem.W.Frag} {H H' : Hp} (s : Same H H') : ∀ {v : V} {d : PyData}, Dp K H v d → Dp K H' v d
  | _, _, .non => .non
  | _, _, .bl b => .bl b
  | _, _, .int i => .int i
  | _, _, .str x => .str x
  | _, _, .lst h t => .lst (s.seq h) (dpAll_same s t)
  | _, _, .tup h t => .tup (sqT_same s h) (dpAll_same s t)
theorem dpAll_same {K : PySem.W.Frag} {H H' : Hp} (s : Same H H') : ∀ {vs : List V} {ds : List PyData}, DpAll K H vs ds → DpAll K H' vs ds
  | _, _, .nil => .nil
  | _, _, .cons h t => .cons (dp_same s h) (dpAll_same s t)
end
/-- f can be called with one argument: R tells of the argument, of the heap there, and what is wanted of the answer -/
def CalQ (P : Program) (w : World) (K : PySem.W.Frag) (mg : Str → Option Value) (base : Heap) (k : Nat) (f : Addr) (R : V → Hp → VK → Prop) (H : Hp) : Prop := ∀ H', ExtN H H' →
  (∀ h, HOk P w H' h → PySem.W.FnAt f h) ∧
    ∀ (A : Around) (outer : List Env) (s : Shared) (x : V) (u : Value) (Y : VK), Room k A → Env0 P w K mg base A outer s H' → L2.RelV x u → R x H' Y →
      codeAny (model P w) A (.call (.ref f) ⟨[u], []⟩) (CR CX0 outer P w H' s (fun v H2 => Same H' H2 ∧ Y v H2) E0) s
def rSortedKey (P : Program) (w : World) (K : PySem.W.Frag) (mg : Str → Option Value) (base : Heap) (k : Nat) : List V → List V → Hp → VK → Prop := fun vs zs H Q => ∃ (a f : Addr) (ps : List (V × PyData)) (R : V → Hp → VK → Prop), vs = [.ref a] ∧ zs = [.ref f] ∧
  SqL K H a (ps.map (·.1)) ∧ CalQ P w K mg base k f R H ∧ (∀ p ∈ ps, p.2.depth ≤ 10 ∧ ∀ H', Same H H' → R p.1 H' fun v H2 => Dp K H2 v p.2) ∧ AllAlike (ps.map (·.2)) ∧ Sortable (ps.map (·.2)) ∧ ps.length ≤ sizeLine ∧
  ∀ q H2, H q = none → H2 q = some (.lst ((ps.mergeSort (dataLe false (·.2))).map (·.1))) → Same H H2 → Q (.ref q) H2
/-- the state while the keys are asked for -/
structure Keyed_ (X : Cx) (H : Hp) (s : Shared) (a kS : Addr) (e1 : Nat) (ps : List (V × PyData)) (i : Nat) (s' : Shared) : Prop where
  ex : ∃ (Hi : Hp) (ks : List (V × PyData)) (kA : Array Value) (e : Nat), s'.os = s.os ∧ AllBare s'.gens ∧ Un (frs X.stack) [] H Hi s.heap s'.heap ∧ HOk X.prog X.w Hi s'.heap ∧ Same H Hi ∧ Hi kS = none ∧ Hi a = none ∧
    s'.heap.get? kS = some (seqObj "list" kA e) ∧ s'.heap.get? a = some (seqObj "list" #[] e1) ∧ Vals (ks.map (·.1)) kA.toList ∧ (∀ p ∈ ks, Dp X.K Hi p.1 p.2) ∧ ks.map (·.2) = (ps.take i).map (·.2)
section
variable {X : Cx} {pins : List (Addr × Obj)} {σ : L2.St} {H : Hp} {s : Shared} {k : Nat}
theorem Keyed_.step {a kS f : Addr} {e1 j : Nat} {ps : List (V × PyData)} {R : V → Hp → VK → Prop} {its : List Value} {E' : Value → Shared → Prop} {x : Value} {s' : Shared} (I : Inv X pins σ H s) (hr : Room (k + 2) X.A) (hne : kS ≠ a) (nS : s.heap.get? kS = none) (nA : s.heap.get? a = none) (sz : ps.length ≤ sizeLine)
    (hc : CalQ X.prog X.w X.K X.mg X.base k f R H) (hR : ∀ p ∈ ps, p.2.depth ≤ 10 ∧ ∀ H', Same H H' → R p.1 H' fun v H2 => Dp X.K H2 v p.2) (rv : Vals (ps.map (·.1)) its) (hx : its[j]? = some x) (J : Keyed_ X H s a kS e1 ps j s') :
    wpAny (model X.prog X.w) X.A.in1.in1 (call (.ref f) [x]) (fun v s'' => ∃ kA e, s''.heap.get? kS = some (seqObj "list" kA e) ∧ kA.size ≤ ps.length ∧ Keyed_ X H s a kS e1 ps (j + 1) { s'' with heap := s''.heap.update kS (Obj.mapSeq (·.push v)) }) E' s' := by
  obtain ⟨Hi, ks, kA, e, os, bare, un, ok, sm, zS, zA, gS, gA, rk, dk, ek⟩ := J.ex
  have hj : j < ps.length := by
    have := (List.getElem?_eq_some_iff.mp hx).1
    have h2 := rv.length
    rw [List.length_map] at h2
    omega
  have ep : ps[j]? = some ps[j] := List.getElem?_eq_getElem hj
  obtain ⟨v0, i0, r0⟩ := rv.get (i := j) (x := (ps[j]).1) (by rw [List.getElem?_map, ep]; rfl)
  rw [hx] at i0
  obtain rfl := Option.some.inj i0
  have Ii : Inv X pins σ Hi s' := by
    obtain ⟨v, H', I2, _, q⟩ := I.after (Q := fun _ H' => H' = Hi) (u := Value.none) ⟨.non, Hi, os, bare, un, ok, rfl, rfl⟩
    rw [← q]; exact I2
  obtain ⟨_, c2⟩ := hc Hi (.of sm)
  have hR2 := (hR _ (List.mem_of_getElem? ep)).2 Hi sm
  refine wpAny_call (codeAny_mono (c2 X.A.in1.in1 X.stack s' _ x _ hr.in1.in1 Ii.env0.in1.in1 r0 hR2) fun r s2 hq => ?_)
  cases r with
  | error e => exact False.elim hq
  | ok fl =>
    cases fl with
    | next => exact False.elim hq
    | brk => exact False.elim hq
    | cont => exact False.elim hq
    | ret u =>
      obtain ⟨v, H2, os2, bare2, un2, ok2, r2, sm2, dp2⟩ := hq
      have old : ∀ {b : Addr}, s.heap.get? b = none → b ∉ frs X.stack := fun {b} n z => by
        obtain ⟨_, o, ho, _⟩ := I.stack.mem z
        rw [n] at ho; cases ho
      have gS2 := un2.keep kS _ gS zS (old nS) (by simp)
      have gA2 := un2.keep a _ gA zA (old nA) (by simp)
      have zS2 := un2.free kS _ gS zS (by simp)
      have zA2 := un2.free a _ gA zA (by simp)
      have lk : ks.length = j := by
        have := congrArg List.length ek
        rw [List.length_map, List.length_map, List.length_take] at this
        omega
      have lA : kA.size = j := by
        have h1 := rk.length
        have h2 : kA.toList.length = kA.size := by simp
        rw [List.length_map] at h1
        omega
      have sb := Heap.SameBut.update s2.heap kS (Obj.mapSeq (·.push u))
      obtain ⟨e3, g3⟩ : ∃ e3, (s2.heap.update kS (Obj.mapSeq (·.push u))).get? kS = some (seqObj "list" (kA.push u) e3) := ⟨_, get?_update_seq gS2 (·.push u)⟩
      have un12 := un.trans un2
      have kp : ∀ b o, b ≠ kS → s2.heap.get? b = some o → (s2.heap.update kS (Obj.mapSeq (·.push u))).get? b = some o := fun b o hb q => (sb.2 b hb).trans q
      have neS : ∀ b o, s.heap.get? b = some o → b ≠ kS := fun b o q z => by rw [z, nS] at q; cases q
      have trS : ∀ b o, H2 b = some o → b ≠ kS := fun b o q z => by rw [z, zS2] at q; cases q
      refine ⟨kA, e, gS2, by omega, ⟨H2, ks ++ [(v, (ps[j]).2)], kA.push u, e3, os2.trans os, bare2, ⟨fun b o q n hf hx => kp _ _ (neS b o q) (un12.keep b o q n hf hx), fun b o q n hf hx => ?_, un12.free, fun b o q hx => ?_, un12.tups, un12.frzs, un12.tbls⟩, fun b o q => ?_, sm.trans sm2, zS2, zA2, g3, kp _ _ hne.symm gA2, ?_, ?_, ?_⟩⟩
      · obtain ⟨sl, z⟩ := un12.slot b o q n hf hx
        exact ⟨sl, kp _ _ (neS b o q) z⟩
      · obtain ⟨o', z⟩ := un12.there b o q hx
        exact ⟨o', kp _ _ (neS b o q) z⟩
      · refine (ok2 b o q).stay (fun d o' hd z => kp d o' ?_ z) (fun _ z => z) fun _ _ z => z
        rcases hd with rfl | hd
        · exact trS _ _ q
        · exact trS _ _ hd
      · rw [List.map_append]
        have : (kA.push u).toList = kA.toList ++ [u] := by simp
        rw [this]
        exact rk.append (.cons r2 .nil)
      · intro p hp
        rcases List.mem_append.mp hp with h | h
        · exact dp_same sm2 (dk p h)
        · rw [List.mem_singleton.mp h]; exact dp2
      · have et : ps.take (j + 1) = ps.take j ++ [ps[j]] := by rw [List.take_succ, ep]; rfl
        rw [et, List.map_append, List.map_append, ek]
        rfl
/-- sorted(xs, key=f) -/
theorem cr_sortedKey (hr : Room (k + 2) X.A) : CallRK X (.builtin "sorted") [Str.ofString "key"] (rSortedKey X.prog X.w X.K X.mg X.base k) := by
  intro pins s σ H vs zs us ws Q I r rz h
  obtain ⟨l, f, ps, R, rfl, rfl, hs, hc, hR, al, so, sz, q⟩ := h
  obtain ⟨u, rfl, ru⟩ := vals_one r
  obtain rfl : u = Value.ref l := ru
  obtain ⟨z, rfl, rf⟩ := vals_one rz
  obtain rfl : z = Value.ref f := rf
  obtain ⟨its, rv, hl, hz⟩ := I.list hs
  have lits : its.length = ps.length := by
    have := rv.length
    rw [List.length_map] at this
    exact this.symm
  generalize hA : s.heap.objs.size + 1 = a
  have nA : s.heap.get? a = none := Heap.get?_none_of_le (by omega)
  refine sorted_of_sort (vs := its) hl.isList (by omega) (PyProof.Rows.ksk_s1 _ _) (fun _ => PyProof.Rows.ksk_l1 _ _) fun E' => ?_
  rw [hA]
  show wpAny _ _ (Builtin.«list.sort» ⟨[.ref a], [(Str.ofString "key", .ref f)]⟩) _ _ _
  rw [ksk_t1]
  have g0 : (copyHeap s.heap its).get? a = some (seqObj "list" its.toArray 0) := by rw [← hA]; exact copyHeap_at s.heap its
  have ltA : a < (copyHeap s.heap its).objs.size := Heap.lt_size g0
  obtain ⟨e1, g1⟩ : ∃ e1, ((copyHeap s.heap its).update a (Obj.mapSeq fun _ => (#[] : Array Value))).get? a = some (seqObj "list" #[] e1) := ⟨_, get?_update_seq g0 fun _ => #[]⟩
  unfold ksk_tree
  refine wpAny_bind (listItems_at g0 rfl ?_)
  refine wpAny_bind (listUpdate_at g0 rfl ?_ (by rw [List.size_toArray]; omega) (Nat.zero_le _))
  refine wpAny_bind (seqEpoch_at g1 rfl ?_)
  refine wpAny_bind (wpAny_newTuple ?_ (by show its.length ≤ _; omega))
  refine wpAny_bind (wpAny_newList ?_ (Nat.zero_le _))
  refine wpAny_holding ?_
  generalize hS : (((copyHeap s.heap its).update a (Obj.mapSeq fun _ => (#[] : Array Value))).push (seqObj "tuple" its.toArray 0)).objs.size = kS
  have szS : kS = (copyHeap s.heap its).objs.size + 1 := by rw [← hS, size_push', Heap.size_update]
  have hne : kS ≠ a := by omega
  have nS : s.heap.get? kS = none := Heap.get?_none_of_le (by omega)
  generalize hh : (((copyHeap s.heap its).update a (Obj.mapSeq fun _ => (#[] : Array Value))).push (seqObj "tuple" its.toArray 0)).push (seqObj "list" #[] 0) = hp
  have gS : hp.get? kS = some (seqObj "list" #[] 0) := by rw [← hh, ← hS]; exact Heap.get?_push_size _ rfl
  have gA : hp.get? a = some (seqObj "list" #[] e1) := by rw [← hh]; exact Heap.get?_push_of_some _ (Heap.get?_push_of_some _ g1)
  have keep : ∀ b o, s.heap.get? b = some o → hp.get? b = some o := fun b o e => by
    rw [← hh]
    have nb : b ≠ a := fun z => by rw [z, nA] at e; cases e
    exact Heap.get?_push_of_some _ (Heap.get?_push_of_some _ ((Heap.get?_update_ne _ _ _ _ nb).trans (copyHeap_old e)))
  have zA : H a = none := I.hok.fresh (by omega)
  have zS : H kS = none := I.hok.fresh (by omega)
  unfold ksk_rest
  refine wpAny_bind (wpAny_rule ?_)
  rw [List.forIn_toArray]
  refine wpAny_bind (ksk_fold (fun i s' => Keyed_ X H s a kS e1 ps i s') its 0 _ ⟨H, [], #[], 0, rfl, I.bare, Un.kept keep, I.hok.kept keep, Same.refl _, zS, zA, gS, gA, .nil, (fun p hp => by cases hp), rfl⟩ ?_ ?_)
  · intro j x s' hx J
    rw [Nat.zero_add] at J ⊢
    refine wpAny_bind (wpAny_attempt (wpAny_mono (J.step (E' := fun _ _ => False) I hr hne nS nA sz hc hR rv hx) (fun v s2 h2 => ?_) fun _ _ z => z.elim))
    obtain ⟨kA, e, h1, h3, J2⟩ := h2
    refine wpAny_bind (listUpdate_at h1 rfl ?_ (by omega) (by rw [Array.size_push]; omega))
    exact wpAny_pure ⟨rfl, J2⟩
  · intro s' J
    rw [Nat.zero_add] at J
    obtain ⟨Hi, ks, kA, e, os, bare, un, ok, sm, zS2, zA2, gS2, gA2, rk, dk, ek⟩ := J.ex
    have ek : ks.map (·.2) = ps.map (·.2) := by rw [ek, List.take_of_length_le (by omega)]
    have lk : ks.length = ps.length := by
      have := congrArg List.length ek
      rwa [List.length_map, List.length_map] at this
    have lA : kA.size = its.length := by
      have h1 := rk.length
      have h2 : kA.toList.length = kA.size := by simp
      rw [List.length_map] at h1
      omega
    have Ii : Inv X pins σ Hi s' := by
      obtain ⟨v, H', I2, _, q⟩ := I.after (Q := fun _ H' => H' = Hi) (u := Value.none) ⟨.non, Hi, os, bare, un, ok, rfl, rfl⟩
      rw [← q]; exact I2
    have hdep : ∀ d ∈ ps.map (·.2), d.depth ≤ 10 := fun d hd => by
      obtain ⟨p, hp, rfl⟩ := List.mem_map.mp hd
      exact (hR p hp).1
    have er := each_map (R := fun v d => ∃ as, Reads s'.heap v d as) (enc := fun b : V × PyData => b.2) (each_reads Ii (fun p hp => ⟨dk p hp, hdep p.2 (by rw [← ek]; exact List.mem_map.mpr ⟨p, hp, rfl⟩)⟩) rk)
    rw [ek] at er
    have S : SortsAt X.prog X.w X.A.in1.in1 s' (dataKind s'.heap (ps.map (·.2))) kA.toList := SortsAt.data er al so fun d hd => by
      have h1 := hdep d hd
      have h2 := hr.in1.in1.units
      omega
    refine wpAny_bind (listItems_at gS2 rfl ?_)
    refine keyH_end (h₁ := hidT s'.heap fun b => if b = kS then some (.lst []) else none) (fun b o hb e => (of_hidT e).1) ?_ gS2 gA2 hne S lA (by omega) fun h' tk c kp' g' => ⟨rfl, ?_⟩
    · cases q0 : (hidT s'.heap fun b => if b = kS then some (.lst []) else none).get? kS with
      | none => rfl
      | some o =>
        have := (of_hidT q0).2
        rw [if_pos rfl] at this
        cases this
    have old2 : ∀ b o, b ≠ kS → b ≠ a → s'.heap.get? b = some o → h'.get? b = some o := fun b o h1 h2 e => kp' b o h2 (hidT_get e (if_neg h1))
    have neS : ∀ {b o}, s.heap.get? b = some o → b ≠ kS := fun {b o} e z => by rw [z, nS] at e; cases e
    have neA : ∀ {b o}, s.heap.get? b = some o → b ≠ a := fun {b o} e z => by rw [z, nA] at e; cases e
    have trS : ∀ {b o}, Hi b = some o → b ≠ kS := fun {b o} e z => by rw [z, zS2] at e; cases e
    have trA : ∀ {b o}, Hi b = some o → b ≠ a := fun {b o} e z => by rw [z, zA2] at e; cases e
    have out := keyedOut_each (fun b : V × PyData => b.2) (show KeyedOut false (ps.map fun b : V × PyData => b.2) its (sortVals (dataKind s'.heap (ps.map (·.2))) false kA.toList its) from ⟨s'.heap, kA.toList, al, rfl, er⟩) (each_vals rv)
    have sm2 : Same Hi (upd Hi a (.lst ((ps.mergeSort (dataLe false (·.2))).map (·.1)))) := fun b o e => by rw [upd_ne (trA e)]; exact e
    refine I.after ⟨.ref a, upd Hi a (.lst ((ps.mergeSort (dataLe false (·.2))).map (·.1))), os, bare, ⟨fun b o e n nf hx => old2 b o (neS e) (neA e) (un.keep b o e n nf hx), fun b o e n nf hx => ?_, fun b o e n hx => ?_, fun b o e hx => ?_, fun b ys e => sm2 _ _ (un.tups b ys e), fun b o u e => sm2 _ _ (un.frzs b o u e), fun b pp e => ?_⟩, fun b o e => ?_, rfl, q a _ zA upd_same (sm.trans sm2)⟩
    · obtain ⟨sl, z⟩ := un.slot b o e n nf hx
      exact ⟨sl, old2 _ _ (neS e) (neA e) z⟩
    · rw [upd_ne (neA e)]
      exact un.free b o e n hx
    · obtain ⟨o', z⟩ := un.there b o e hx
      exact ⟨o', old2 _ _ (neS e) (neA e) z⟩
    · obtain ⟨more, z⟩ := un.tbls b pp e
      exact ⟨more, sm2 _ _ z⟩
    · by_cases hb : b = a
      · subst hb
        rw [upd_same] at e
        obtain rfl := Option.some.inj e
        exact ⟨by rw [List.length_map, List.length_mergeSort]; exact sz, _, c, vals_each out, g'⟩
      · rw [upd_ne hb] at e
        refine (ok b o e).stay (fun d o' hd z => ?_) (fun d z => sm2 _ _ z) fun d ys z => sm2 _ _ z
        rcases hd with rfl | hd
        · exact old2 _ _ (trS e) (trA e) z
        · exact old2 _ _ (trS hd) (trA hd) z
end
end HF
/-! a lambda of one parameter, handed on and called elsewhere; it captures nothing -/
namespace HF
open PySem PySem.Spec PyProof.Rows L2 LamX NdefX
/-- the object at f is this lambda -/
def LamO (f : Addr) (q : Str) (params : Arguments) (body : Expr) (scope : Scope) (c : Addr) : HO := .ext fun h => ∃ pm ctv, h.get? f = some (PySem.W.kla_obj "<lambda>" q params body scope [] pm c ctv)
theorem lamO_ne {f : Addr} {q : Str} {params : Arguments} {body : Expr} {scope : Scope} {c : Addr} (ps : Array Value) : LamO f q params body scope c ≠ .tbl ps := fun z => by
  unfold LamO at z
  cases z
section
variable {X : Cx} {pins : List (Addr × Obj)} {σ : L2.St} {H : Hp} {s : Shared}
theorem inv_lam {q : Str} {params : Arguments} {body : Expr} {scope : Scope} {c : Addr} {pm ctv : Value} {t' : Nat} (I : Inv X pins σ H s) :
    Inv X pins σ (upd H s.heap.objs.size (LamO s.heap.objs.size q params body scope c)) { s with heap := s.heap.push (PySem.W.kla_obj "<lambda>" q params body scope [] pm c ctv), toks := t' } := by
  have e : (s.heap.push (PySem.W.kla_obj "<lambda>" q params body scope [] pm c ctv)).get? s.heap.objs.size = some (PySem.W.kla_obj "<lambda>" q params body scope [] pm c ctv) := Heap.get?_push_size _ rfl
  refine I.laid (a := s.heap.objs.size) (fun b u z => Heap.get?_push_of_some _ z) (Nat.le_refl _) ⟨⟨pm, ctv, e⟩, ⟨_, e⟩, ?_⟩
  rintro h1 h2 ⟨p, t, z⟩ st
  exact ⟨p, t, st _ z⟩
/-- what making it tells -/
def tLamN (T : List NTab) (q : Str) (params : Arguments) (body : Expr) (scope : Scope) : TE := fun _ H Q => TabsN T H ∧ ∀ (f c : Addr) (H1 : Hp), Grow H H1 → TabsN T H1 → H f = none → H1 f = some (LamO f q params body scope c) → H1 c = some (CodeO c q) → Q (.ref f) H1
theorem pe_lam {T : List NTab} {nm : Nat → Nat → Str} {c P : Addr} {params : Arguments} {body : Expr} {scope : Scope} {pos : Pos} (TB : TabB X.base X.mg c P) (hcode : X.env.code = .ref c) (hm : (P, nm) ∈ T) (hn : nm pos.line pos.col = X.env.qual ++ "<lambda>") (hu : ∀ p ∈ T, p.1 = P → p.2 = nm)
    (hdef : defaultsOf params X.env = ([], [])) (hfree : ∀ y ∈ scope.names, y.2 ≠ .free) : PE X (.Lambda params body scope pos) (tLamN T (X.env.qual ++ "<lambda>") params body scope) := by
  refine ⟨fun pins s σ H Q I h => ?_⟩
  obtain ⟨hT, h⟩ := h
  obtain ⟨tb, hP, ht, ha⟩ := (show TabN H P nm from hT _ hm)
  have hb : s.heap.BuiltinsAt X.mg P := TB.bm.keeps I.bk
  have gP : s.heap.get? P = some { cls := .none, data := .fields tb } := I.hok P _ hP
  have none_ : ∀ (l : List (Str × NameKind)), (∀ y ∈ l, y.2 ≠ .free) → cloFrom X.env.cells l [] = [] := fun l => by
    induction l with
    | nil => intro _; rfl
    | cons y l ih =>
      intro hy
      obtain ⟨n, kd⟩ := y
      have h0 : (kd == NameKind.free) = false := beq_eq_false_iff_ne.mpr (hy _ List.mem_cons_self)
      show (if (kd == NameKind.free) = true then _ else _) = _
      rw [h0, if_neg (by simp)]
      exact ih fun z hz => hy z (List.mem_cons_of_mem _ hz)
  have hcl := closure_ok (env := X.env) (scope := scope) fun y hy e => absurd e (hfree y hy)
  rw [none_ _ hfree] at hcl
  refine PySem.W.kla_eval hdef ?_
  cases hc : codeAmong pos tb.toList with
  | some cv =>
    obtain ⟨c2, rfl, hco⟩ := ha pos cv hc
    rw [hn] at hco
    refine PySem.W.kla_makeFunctionHit (mg := X.mg) (c := c) (P := P) (ps := tb) hcl I.ok.glob (I.mod.glob.keeps I.bk) hcode (TB.code.keeps I.bk) gP ht hc hb fun ctv h' tk hx hsz => ?_
    have I1 : Inv X pins σ H { s with heap := h', toks := tk } := I.kept hx
    have nF : H h'.objs.size = none := I1.hok.fresh (Nat.le_refl _)
    have ne : ∀ {b o}, H b = some o → upd H h'.objs.size (LamO h'.objs.size (X.env.qual ++ "<lambda>") params body scope c2) b = some o := fun {b o} e => (upd_ne (ne_of_none e nF)).trans e
    exact ⟨.ref h'.objs.size, _, inv_lam (t' := tk) (c := c2) I1, rfl, h _ c2 _ (.of fun b o e => ne e) (hT.ext fun b o e => ne e) nF upd_same (ne hco)⟩
  | none =>
    refine PySem.W.kla_makeFunction (mg := X.mg) (c := c) (P := P) (ps := tb) hcl I.ok.glob (I.mod.glob.keeps I.bk) hcode (TB.code.keeps I.bk) gP ht hc TB.gP hb fun c2 ctv h' tk hx hge hlt hrec htb => ?_
    obtain ⟨c3, oc, vs, t, e3, hoc, hd, hv⟩ := hrec
    cases e3
    have nC : H c2 = none := I.hok.fresh hge
    have I1 := inv_table (t' := tk) (q := X.env.qual ++ "<lambda>") (more := #[rawInt pos.line, rawInt pos.col, .ref c2]) (h' := h') I hP (fun b o hb e => hx b o hb e) htb hge ⟨oc, vs, t, hoc, hd, hv⟩
    have nF := I1.hok.fresh (Nat.le_refl _)
    have eL : (tb ++ #[rawInt pos.line, rawInt pos.col, .ref c2]).toList = tb.toList ++ [rawInt pos.line, rawInt pos.col, .ref c2] := by simp
    have grow : ∀ b o, H b = some o → (∀ ps, o ≠ .tbl ps) → upd (upd H P (.tbl (tb ++ #[rawInt pos.line, rawInt pos.col, .ref c2]))) c2 (CodeO c2 (X.env.qual ++ "<lambda>")) b = some o := fun b o e n => by
      have h1 : b ≠ P := fun z => by rw [z, hP] at e; exact n tb (Option.some.inj e).symm
      rw [upd_ne (ne_of_none e nC), upd_ne h1]
      exact e
    have T1 : TabsN T (upd (upd H P (.tbl (tb ++ #[rawInt pos.line, rawInt pos.col, .ref c2]))) c2 (CodeO c2 (X.env.qual ++ "<lambda>"))) := fun p hp => by
      by_cases hb : p.1 = P
      · rw [hu p hp hb, hb]
        refine ⟨_, (upd_ne (ne_of_none hP nC)).trans upd_same, by rw [eL]; exact PySem.TriplesOk_snoc _ _ _ _ ht, fun p' cv hcv => ?_⟩
        rw [eL] at hcv
        rcases among_app2 _ ht hcv with z | ⟨z, z1, z2⟩
        · obtain ⟨c0, a1, a2⟩ := ha p' cv z
          exact ⟨c0, a1, grow _ _ a2 codeO_ne⟩
        · exact ⟨c2, z, by rw [← z1, ← z2, hn]; exact upd_same⟩
      · obtain ⟨tb2, a1, a2, a3⟩ := hT p hp
        refine ⟨tb2, ((upd_ne (ne_of_none a1 nC)).trans (upd_ne hb)).trans a1, a2, fun p' cv hcv => ?_⟩
        obtain ⟨c0, b1, b2⟩ := a3 p' cv hcv
        exact ⟨c0, b1, grow _ _ b2 codeO_ne⟩
    exact ⟨.ref h'.objs.size, _, inv_lam (t' := tk) (c := c2) I1, rfl, h _ c2 _ ⟨fun b o e n => (upd_ne (ne_of_none (grow b o e n) nF)).trans (grow b o e n), fun b e => upd_none (upd_none (upd_none e))⟩ (T1.ext fun b o e => (upd_ne (ne_of_none e nF)).trans e) (I.hok.fresh (Nat.le_trans hge (Nat.le_of_lt hlt)))
      upd_same ((upd_ne (Nat.ne_of_lt hlt)).trans upd_same)⟩
end
section
variable {P : Program} {w : World} {K : PySem.W.Frag} {mg : Str → Option Value} {base : Heap} {k : Nat} {f c : Addr} {q x : Str} {params : Arguments} {body : Expr} {scope : Scope} {N : List Str} {R : V → Hp → VK → Prop} {H : Hp}
/-- its call -/
theorem cal_lam (S : NScope N [x] [] scope) (hb : ∀ (pm cv ctv u : Value), bindArgs (PySem.W.kla_fn "<lambda>" q params body scope [] pm cv ctv) ⟨[u], []⟩ = pure [(x, u)])
    (hbody : ∀ (A : Around) (outer : List Env) (s : Shared) (H : Hp) (v : V) (Y : VK), Room k (A.deeper (envF ⟨"<lambda>", q, params, [], scope, [], c⟩ f s.heap.objs.size)) → R v H Y →
      ∃ t, PE (ncx CX0 P w K mg base N ⟨"<lambda>", q, params, [], scope, [], c⟩ f A outer s H E0) body t ∧ t (startF N [v] []) H fun r H2 => Same H H2 ∧ Y r H2)
    (hf : H f = some (LamO f q params body scope c)) (hc : H c = some (CodeO c q)) : CalQ P w K mg base (k + 1) f R H := by
  intro H' e
  have hf' := e _ _ hf lamO_ne
  have hc' := e _ _ hc codeO_ne
  refine ⟨fun h ok => ?_, fun A outer s v u Y hr e0 r hR => ?_⟩
  · obtain ⟨⟨pm, ctv, ho⟩, _, _⟩ := ok _ _ hf'
    exact ⟨_, _, _, _, ho⟩
  · obtain ⟨⟨pm, ctv, ho⟩, _, _⟩ := e0.hok _ _ hf'
    have lim : s.heap.NoLimit := e0.mod.nolimit.keeps fun b o e => (e0.bs b o e).1
    refine PySem.W.kla_callFunE hr.depth ho rfl S.co S.gen rfl (codeO_at e0.hok hc') ?_
    rw [hb]
    refine wpAny_pure (wpAny_newFunctionEnv S.nocell (fun ⟨n, _⟩ hy => ?_) (fun h₁ hns hsb => ⟨lim.fresh _ hsb, ?_⟩) S.kind)
    · exact S.par n (List.of_mem_zip (show _ ∈ [x].zip [u] from hy)).1
    show codeAny _ _ (.expr body (envF ⟨"<lambda>", q, params, [], scope, [], c⟩ f s.heap.objs.size)) _ _
    have kp : ∀ b o, s.heap.get? b = some o → h₁.get? b = some o := fun b o e => hsb.extBut b o (Nat.ne_of_lt (Heap.lt_size e)) (Heap.get?_push_of_some _ e)
    have C : CellsAt ([] : List (Str × Addr)) ([] : List Str) ([] : List (Option V)) s.heap H' := ⟨rfl, (fun y c (e : none = some c) => nomatch e), (fun y z c (e : none = some c) => nomatch e), fun i y e => by simp at e⟩
    have I : Inv (ncx CX0 P w K mg base N ⟨"<lambda>", q, params, [], scope, [], c⟩ f A outer s H' E0) [] (startF N [v] []) H' { s with heap := h₁, toks := s.toks + ([(x, u)] : List (Str × Value)).length } :=
      inv_startN (F := ⟨"<lambda>", q, params, [], scope, [], c⟩) S hr.hd e0 rfl (.cons r .nil) C hns kp
    obtain ⟨t, ht, hq⟩ := hbody A outer s H' v Y (hr.deeper _) hR
    refine PySem.W.kla_codeExpr (wpAny_mono (ht.run [] _ _ H' _ I hq) (fun u s' z => ?_) fun e s' z => z)
    obtain ⟨v2, H2, J, rv, q2⟩ := z
    exact ⟨v2, H2, J.os, J.bare, J.base, J.hok, rv, q2⟩
end
end HF
namespace L2.TB
open PySem PySem.Spec PyProof.Rows
open HF NdefX LamX
/-! the least sets of places, the most ones that don't tell -/
/-- a def whose code object is known -/
theorem fun_okC {P : Program} {w : World} {K : PySem.W.Frag} {mg : Str → Option Value} {base : Heap} {x qual : Str} {st : Stmt} {f c : Addr} {fd : FuncData} {N ps : List Str} {k : Nat} {sp : Sp} (F : Fun K x qual st f fd) (hc : fd.code = .ref c) (S : FnScope N ps (defScope st)) (len : ∀ vs H Q E, sp vs H Q E → vs.length = ps.length)
    (hbody : ∀ (A : Around) (outer : List Env) (s : Shared) (H : Hp) (vs : List V) (Q : VK) (E : XK), Room k (A.deeper (envOfC qual (defScope st) s.heap.objs.size f (.ref c))) → sp vs H Q E →
      ∃ t, PSs (cxOf CX0 P w K mg base N qual (defScope st) f (.ref c) A outer s H E).nox (defBody st) t ∧ t { nx := fun _ H' => Q .non H', rt := Q } (start N vs) H) : FnOk P w K mg base CX0 (k + 1) f fd ps sp := by
  obtain ⟨oc, od, kV, doc, pm, an, cdv, ct, osl, rfl, lk, hcd⟩ := F.ex
  have hc : cdv = .ref c := hc
  subst hc
  refine fn_of lk hcd S len fun A outer s H vs Q E hr hsp => ?_
  obtain ⟨t, h, q⟩ := hbody A outer s H vs Q E hr hsp
  exact ⟨t, h.nox, q⟩
def goodM (many : Nat) (p : List Nat → Bool) (m : Nat) : Bool := p (bitsL many m) && !((bitsL many m).any fun pl => p (bitsL many (m - 2 ^ pl)))
def goodL (many : Nat) (p : List Nat → Bool) : List (List Nat) := ((List.range (2 ^ many)).filter (goodM many p)).map (bitsL many)
def keyP (ps : List Nat) : PyData := .tuple [.int (ps.length : Nat), .list (ps.map fun q => .int (q : Nat))]
def leastO (many : Nat) (p : List Nat → Bool) : List (List Nat) := (goodL many p).mergeSort (PySem.W.dataLe false keyP)
def mostM (many : Nat) (p : List Nat → Bool) (m : Nat) : Bool := !p (bitsL many m) && (((List.range many).filter fun pl => !hasB m pl).all fun pl => p (bitsL many (m + 2 ^ pl)))
def mostR (many : Nat) (p : List Nat → Bool) : List (List Nat) := ((List.range (2 ^ many)).filter (mostM many p)).map (bitsL many)
def encP (ps : List Nat) : PyData := .list (ps.map fun q => .int (q : Nat))
def mostO (many : Nat) (p : List Nat → Bool) : List (List Nat) := (mostR many p).mergeSort (PySem.W.dataLe false encP)
def SetsAt (H : Hp) : List Addr → List (List Nat) → Prop := Paired fun t (l : List Nat) => H t = some (.lst (placesV l))
theorem SetsAt.same {H H' : Hp} {ts : List Addr} {ls : List (List Nat)} (h : SetsAt H ts ls) (s : Same H H') : SetsAt H' ts ls := Paired.mapP h fun t l e => s _ _ e
theorem SetsAt.zip {H : Hp} : ∀ {ts : List Addr} {ls : List (List Nat)}, SetsAt H ts ls → ∃ zs : List (Addr × List Nat), ts = zs.map (·.1) ∧ ls = zs.map (·.2) ∧ ∀ z ∈ zs, H z.1 = some (.lst (placesV z.2))
  | [], [], .nil => ⟨[], rfl, rfl, fun z hz => by cases hz⟩
  | t :: ts, l :: ls, .cons h r => by
    obtain ⟨zs, rfl, rfl, hz⟩ := SetsAt.zip r
    refine ⟨(t, l) :: zs, rfl, rfl, fun z hz' => ?_⟩
    rcases List.mem_cons.mp hz' with rfl | hm
    · exact h
    · exact hz z hm
theorem sets_of {H : Hp} : ∀ (zs : List (Addr × List Nat)), (∀ z ∈ zs, H z.1 = some (.lst (placesV z.2))) → SetsAt H (zs.map (·.1)) (zs.map (·.2))
  | [], _ => .nil
  | z :: zs, h => .cons (h z List.mem_cons_self) (sets_of zs fun y hy => h y (List.mem_cons_of_mem _ hy))
/-- sorting the pairs is sorting the sets -/
theorem sort_zip (enc : List Nat → PyData) (zs : List (Addr × List Nat)) :
    ((zs.map fun z => ((V.ref z.1, enc z.2) : V × PyData)).mergeSort (PySem.W.dataLe false (·.2))).map (·.1) = (zs.mergeSort (PySem.W.dataLe false fun z => enc z.2)).map (fun z => V.ref z.1) ∧
      (zs.map (·.2)).mergeSort (PySem.W.dataLe false enc) = (zs.mergeSort (PySem.W.dataLe false fun z => enc z.2)).map (·.2) := by
  constructor
  · have h := List.map_mergeSort (r := PySem.W.dataLe false fun z : Addr × List Nat => enc z.2) (s := PySem.W.dataLe false fun b : V × PyData => b.2) (f := fun z : Addr × List Nat => ((V.ref z.1, enc z.2) : V × PyData)) (l := zs) (fun a _ b _ => rfl)
    rw [← h, List.map_map]
    rfl
  · exact (List.map_mergeSort (r := PySem.W.dataLe false fun z : Addr × List Nat => enc z.2) (s := PySem.W.dataLe false enc) (f := fun z : Addr × List Nat => z.2) (l := zs) (fun a _ b _ => rfl)).symm
theorem alikeP : ∀ xs ys : List Nat, PySem.W.alikeAll (xs.map fun x => PyData.int (x : Nat)) (ys.map fun x => PyData.int (x : Nat)) = true := alike_ints
theorem depthP : ∀ xs : List Nat, PyData.depthAll (xs.map fun x => PyData.int (x : Nat)) = 0
  | [] => by simp [PyData.depthAll]
  | x :: xs => by simp [PyData.depthAll, PyData.depth, depthP xs]
theorem dpP {K : PySem.W.Frag} {H : Hp} : ∀ ps : List Nat, DpAll K H (placesV ps) (ps.map fun q => PyData.int (q : Nat))
  | [] => .nil
  | p :: ps => .cons (.int _) (dpP ps)
theorem keyP_alike (a b : List Nat) : PySem.W.alike (keyP a) (keyP b) = true := by
  have := alikeP a b
  unfold keyP
  simp [PySem.W.alike, PySem.W.alikeAll, this]
theorem encP_alike (a b : List Nat) : PySem.W.alike (encP a) (encP b) = true := by
  have := alikeP a b
  unfold encP
  simp [PySem.W.alike, this]
theorem keyP_depth (a : List Nat) : (keyP a).depth ≤ 10 := by
  have := depthP a
  unfold keyP
  simp [PyData.depth, PyData.depthAll, this]
theorem encP_depth (a : List Nat) : (encP a).depth ≤ 10 := by
  have := depthP a
  unfold encP
  simp [PyData.depth, this]
/-- a code object's table -/
structure TbAt (base : Heap) (mg : Str → Option Value) (T : List NTab) (c Pt : Addr) (q : Str) : Prop where
  tb : TabB base mg c Pt
  m : (Pt, fun _ _ => q) ∈ T
  u : ∀ p ∈ T, p.1 = Pt → p.2 = fun _ _ => q
def lamCall : Stmt → Expr
  | .Return (some (.Call _ _ (⟨_, e, _⟩ :: _) _)) _ => e
  | _ => .Constant .none 0 ⟨0, 0, 0, 0⟩
def lamArgs : Expr → Arguments
  | .Lambda a _ _ _ => a
  | _ => ⟨[], [], none, [], [], none, []⟩
def lamBody : Expr → Expr
  | .Lambda _ b _ _ => b
  | e => e
def lamScope : Expr → Scope
  | .Lambda _ _ s _ => s
  | _ => ⟨.function, [], false, false, []⟩
abbrev eLm : Expr := lamCall ((defBody sLeastS).getD 3 (.Pass ⟨0, 0, 0, 0⟩))
abbrev qLm : Str := ("least_sets" : Str) ++ ".<locals>." ++ "<lambda>"
theorem scLm : NScope ["places"] ["places"] [] (lamScope eLm) := nscope_by (by decide +kernel)
/-- the key of some places -/
def LmR : V → Hp → VK → Prop := fun v H Y => ∃ (t : Addr) (ps : List Nat), v = .ref t ∧ H t = some (.lst (placesV ps)) ∧ ∀ p H2, H p = none → H2 p = some (.tup [.int (ps.length : Nat), .ref t]) → Same H H2 → Y (.ref p) H2
section
variable {P : Program} {w : World} {K : PySem.W.Frag} {mg : Str → Option Value} {base : Heap} {f c : Addr} {H : Hp}
theorem cal_key (gN : mg "len" = none) (hf : H f = some (LamO f qLm (lamArgs eLm) (lamBody eLm) (lamScope eLm) c)) (hc : H c = some (CodeO c qLm)) : CalQ P w K mg base 1 f LmR H := by
  refine cal_lam (k := 0) (N := ["places"]) (x := "places") scLm (fun _ _ _ _ => rfl) (fun A outer s H v Y hr hR => ?_) hf hc
  obtain ⟨t, ps, rfl, ht, q⟩ := hR
  refine ⟨_, pe_tup (pa_cons (pe_callB (r := rLenS K) call_len_seq rfl gN boot_len (pa_cons (pv 0) pa_nil)) (pa_cons (pv 0) pa_nil)), ?_⟩
  refine ⟨_, rfl, t, _, rfl, .inl (SqL.of ht), _, rfl, (by rw [sizeLine_eq]; show 2 ≤ _; omega), fun p np => ?_⟩
  have e : (placesV ps).length = ps.length := by unfold placesV; rw [List.length_map]
  rw [e]
  exact ⟨same_new np, q p _ np upd_same (same_new np)⟩
end
end L2.TB
namespace L2.TB
open PySem PySem.Spec PyProof.Rows
open HF NdefX LamX
def spLeastS (P : Program) (w : World) (K : PySem.W.Frag) (mg : Str → Option Value) (base : Heap) (T : List NTab) : Sp := fun vs H Q _ => ∃ (many : Nat) (g : Addr) (p : List Nat → Bool), vs = [.int (many : Nat), .ref g] ∧ many ≤ 10 ∧ Cal P w K mg base 6 g (TellR many p) H ∧ UpP many p ∧ TabsN T H ∧
  ∀ H' q ts, H q = none → H' q = some (.lst ((ts : List Addr).map V.ref)) → SetsAt H' ts (leastO many p) → Grow H H' → TabsN T H' → Q (.ref q) H'
abbrev NLsS : List Str := ["many", "tells", "tellings", "out", "mask", "places", "place"]
theorem scLs : FnScope NLsS ["many", "tells"] (defScope sLeastS) := ⟨rfl, rfl, rfl, by decide +kernel, rfl, by decide +kernel, by decide +kernel⟩
theorem bit_of {many m pl : Nat} (h : pl ∈ bitsL many m) : pl < many ∧ hasB m pl = true := by
  obtain ⟨h1, h2⟩ := List.mem_filter.mp h
  exact ⟨List.mem_range.mp h1, h2⟩
theorem bits_short {many m : Nat} : (bitsL many m).length ≤ many := by
  have := List.length_filter_le (hasB m) (List.range many)
  rw [List.length_range] at this
  exact this
theorem cshl1 {j : Nat} (h : j ≤ 10) : CShl (1 : Int) (j : Int) := shl_ok (n := 1) (by decide) (by omega)
theorem shl1 (j : Nat) : (1 : Int) * 2 ^ j = ((2 ^ j : Nat) : Int) := by simp
theorem filt_snoc {α β : Type} (f : α → Bool) (g : α → β) (l : List α) (x : α) : ((l ++ [x]).filter f).map g = (l.filter f).map g ++ if f x = true then [g x] else [] := by
  rw [List.filter_append, List.map_append, List.filter_cons]
  by_cases h : f x = true
  · rw [if_pos h, if_pos h]; rfl
  · rw [if_neg h, if_neg h]; rfl
theorem paired_mem {α β : Type} {F : α → β → Prop} {G : α → Prop} : ∀ {xs : List α} {ys : List β}, Paired F xs ys → (∀ x ∈ xs, G x) → Paired (fun x y => G x ∧ F x y) xs ys
  | _, _, .nil, _ => .nil
  | _, _, .cons r t, h => .cons ⟨h _ List.mem_cons_self, r⟩ (paired_mem t fun x hx => h x (List.mem_cons_of_mem _ hx))
section
variable {P : Program} {w : World} {K : PySem.W.Frag} {mg : Str → Option Value} {base : Heap} {f fB fT c Pt : Addr} {fd fdB fdT : FuncData} {T : List NTab}
theorem ok_leastS (F : Fun K "least_sets" "least_sets" sLeastS f fd) (hc : fd.code = .ref c) (TB : TbAt base mg T c Pt qLm) (FT : Fun K "_tellings" "_tellings" sTellings fT fdT) (gTs : mg "_tellings" = some (.ref fT)) (FB : Fun K "_places" "_places" sBits fB fdB) (gB : mg "_places" = some (.ref fB))
    (gR : mg "range" = none) (gY : mg "any" = none) (gN : mg "len" = none) (gS : mg "sorted" = none) : FnOk P w K mg base CX0 8 f fd ["many", "tells"] (spLeastS P w K mg base T) := by
  have GB := ok_bits (P := P) (w := w) (base := base) FB gR
  have bB := FB.binds (ps := ["many", "mask"]) fun _ _ _ _ _ _ us hl => match us, hl with | [_, _], _ => rfl
  have GT := ok_tellings (P := P) (w := w) (base := base) FT FB gB gR gY
  have bT := FT.binds (ps := ["many", "tells"]) fun _ _ _ _ _ _ us hl => match us, hl with | [_, _], _ => rfl
  refine fun_okC F hc scLs (fun vs H Q E h => by obtain ⟨many, g, p, e, _⟩ := h; rw [e]; rfl) fun A outer s H vs Q E hr hsp => ?_
  obtain ⟨many, g, p, rfl, few, cal, up, hT, hq⟩ := hsp
  have nd := scLs.nd
  have p2 := two_pow_le few
  refine ⟨_, pss_cons (ps_set (i := 2) nd rfl (Or.inr rfl) (pe_call GT hr rfl gTs FT.kp bT .nil pass0 (pa_cons (pv 0) (pa_cons (pv 1) pa_nil))))
    (pss_cons (ps_set (i := 3) nd rfl (Or.inl rfl) (pe_lst pa_nil))
    (pss_cons (ps_for PassesOwn.never rfl (pi_range1 rfl gR (pa_cons (pe_op (r := rShlN) op_shlN pe_int (pv 0)) pa_nil)) (pg_name (i := 4) nd rfl (Or.inr rfl))
      (pss_cons (ps_set (i := 5) nd rfl (Or.inl rfl) (pe_call GB (hr.mono (by decide)) rfl gB FB.kp bB .nil pass0 (pa_cons (pv 0) (pa_cons (pv 4) pa_nil))))
      (pss_one (ps_if (PW.pt (pw_and (pt_val (pe_ix (r := rIxL K) ix_list (pv 2) (pv 4) (fun _ _ => rfl))) (pw_and1 (pt_not (pt_val (pe_callB (r := rAny K) (cr_any rfl) rfl gY boot_any'
          (pa_cons (pe_lc (own := [("place", 6)]) (tt := tYes) (g := gName 6) (te := tOp (rIxL K) (tVar 2) (tOp rSubI (tVar 4) (tOp rShlN (tC (.int 1)) (tVar 6)))) rfl nd (pi_list (pv 5)) (blkOk_by (N := NLsS) (sc := defScope sLeastS) (by decide +kernel)) (fun _ _ _ _ _ => pg_name (i := 6) nd rfl (Or.inl rfl)) (fun _ _ _ _ _ => pts_nil)
          (fun _ _ _ _ _ => pe_ix (r := rIxL K) ix_list (pv 2) (pe_op (r := rSubI) op_sub (pv 4) (pe_op (r := rShlN) op_shlN pe_int (pv 6))) (fun _ _ => rfl))) pa_nil)))))))
        (pss_one (ps_expr (pe_bm PySem.F.plainAttrs_list PySem.F.slot_list_append PySem.F.type_list_append mt_append (pv 3) (pa_cons (pv 5) pa_nil)))) pss_nil))))
    (pss_one (ps_ret (pe_callBK (HF.cr_sortedKey (k := 1) (hr.mono (by decide))) rfl gS (by decide +kernel) (pa_cons (pv 3) pa_nil) (pk_cons (pe_lam (T := T) (params := lamArgs eLm) (body := lamBody eLm) (scope := lamScope eLm) TB.tb rfl TB.m rfl TB.u rfl (by decide +kernel)) pk_nil)))))), ?_⟩
  refine ⟨_, rfl, _, rfl, many, g, p, rfl, few, cal, up, fun H1 q1 n1 o1 k1 => ?_⟩
  refine ⟨Nat.zero_le _, fun q nq => ?_⟩
  have pw0 : (0 : Int) ≤ ((2 ^ many : Nat) : Int) := Int.natCast_nonneg _
  have pw1 : ((2 ^ many : Nat) : Int) ≤ 1024 := Int.ofNat_le.mpr p2
  have ltl : (tellings many p).length = 2 ^ many := by unfold tellings; rw [List.length_map, List.length_range]
  refine ⟨_, rfl, 1, many, rfl, rfl, cshl1 few, ?_⟩
  rw [shl1]
  refine ⟨((2 ^ many : Nat) : Int), rfl, Int.le_trans (by decide) pw0, Int.lt_of_le_of_lt pw1 (by decide), for_range (n := 2 ^ many) (fun i σ H' => ∃ ts : List Addr, H' q = some (.lst (ts.map V.ref)) ∧ (∀ t ∈ ts, t ≠ q) ∧ SetsAt H' ts (((List.range i).filter (goodM many p)).map (bitsL many)) ∧ Same H1 H' ∧
      ∃ s4 s5 s6, σ = [some (.int (many : Nat)), some (.ref g), some (.ref q1), some (.ref q), s4, s5, s6])
    ⟨[], upd_same, (fun t ht => by cases ht), .nil, same_new nq, _, _, _, rfl⟩ ?_ ?_⟩
  · rintro i σ H2 hi ⟨ts, oq, tq, sets, k2, s4, s5, s6, rfl⟩
    have ei : ((0 : Int) + (i : Nat)) = ((i : Nat) : Int) := by omega
    rw [ei]
    have lts : ts.length ≤ 1024 := by
      have h1 := Paired.length sets
      have h2 := List.length_filter_le (goodM many p) (List.range i)
      rw [List.length_map] at h1
      rw [List.length_range] at h2
      omega
    refine ⟨_, rfl, _, rfl, many, i, rfl, by omega, fun H3 d nd3 od k3 => ?_⟩
    have od : H3 d = some (.lst (placesV (bitsL many i))) := od
    have o13 := k3 _ _ (k2 _ _ o1)
    have oq3 := k3 _ _ oq
    have snoc : ((List.range (i + 1)).filter (goodM many p)).map (bitsL many) = ((List.range i).filter (goodM many p)).map (bitsL many) ++ if goodM many p i = true then [bitsL many i] else [] := by rw [List.range_succ, filt_snoc]
    have k23 := k2.trans k3
    have stay : goodM many p i = false → ∃ ts : List Addr, H3 q = some (.lst (ts.map V.ref)) ∧ (∀ t ∈ ts, t ≠ q) ∧ SetsAt H3 ts (((List.range (i + 1)).filter (goodM many p)).map (bitsL many)) ∧ Same H1 H3 := fun z => by
      refine ⟨ts, oq3, tq, ?_, k23⟩
      rw [snoc, z, if_neg (by simp), List.append_nil]
      exact sets.same k3
    refine ⟨_, rfl, _, rfl, _, _, _, _, rfl, rfl, SqL.of o13, atI_nat (v := V.bl (p (bitsL many i))) ?_, _, rfl, ?_⟩
    · rw [List.getElem?_map, tellings_at hi]; rfl
    cases c1 : p (bitsL many i) with
    | false =>
      refine iteF ?_
      obtain ⟨ts', h1, h2, h3, h4⟩ := stay (by unfold goodM; rw [c1]; rfl)
      exact ⟨ts', h1, h2, h3, h4, _, _, _, rfl⟩
    | true =>
      refine iteT ?_
      refine ⟨_, rfl, d, rfl, ⟨_, SqL.of od⟩, ?_⟩
      refine lc_gen ((bitsL many i).map fun pl => V.bl (p (bitsL many (i - 2 ^ pl)))) (by have := bits_short (many := many) (m := i); rw [List.length_map]; omega) (fun j H' s lt => ⟨_, _, SqL.of (s _ _ od), List.getElem?_eq_getElem (by unfold placesV; rw [List.length_map]; rw [List.length_map] at lt; exact lt)⟩) (fun H' s => ⟨_, SqL.of (s _ _ od), by unfold placesV; rw [List.length_map, List.length_map]; exact Nat.le_refl _⟩) ?_ ?_
      · rintro j v y H4 H5 Cn Nn ey s3 ⟨rfl, ev⟩ yes
        have ev := ev _ (SqL.of (s3 _ _ od))
        unfold placesV at ev
        rw [List.getElem?_map] at ev ey
        obtain ⟨pl, ep, rfl⟩ := Option.map_eq_some_iff.mp ev
        rw [ep] at ey
        obtain rfl : V.bl (p (bitsL many (i - 2 ^ pl))) = y := Option.some.inj ey
        obtain ⟨b1, b2⟩ := bit_of (List.mem_of_getElem? ep)
        have hl := hasB_sub b2
        have ev2 : (i : Int) - 1 * 2 ^ pl = ((i - 2 ^ pl : Nat) : Int) := by rw [shl1]; omega
        refine ⟨rfl, ?_⟩
        refine ⟨_, rfl, _, rfl, _, rfl, 1, pl, rfl, rfl, cshl1 (by omega), (i : Int), 1 * 2 ^ pl, rfl, rfl, ?_⟩
        show rIxL K (V.ref q1) (V.int ((i : Int) - 1 * 2 ^ pl)) H5 _
        rw [ev2]
        refine ⟨_, _, _, _, rfl, rfl, SqL.of (s3 _ _ o13), atI_nat (v := V.bl (p (bitsL many (i - 2 ^ pl)))) ?_, yes _ (Same.refl _)⟩
        rw [List.getElem?_map, tellings_at (Nat.lt_of_le_of_lt (Nat.sub_le _ _) hi)]
        rfl
      intro H4 D nD oD k4
      have oD : H4 D = some (.lst (((bitsL many i).map fun pl => p (bitsL many (i - 2 ^ pl))).map V.bl)) := by rw [oD, List.map_map]; rfl
      refine ⟨D, _, rfl, SqL.of oD, _, rfl, ?_⟩
      have ga : goodM many p i = !(((bitsL many i).map fun pl => p (bitsL many (i - 2 ^ pl))).any id) := by
        unfold goodM
        rw [c1, List.any_map]
        rfl
      cases c0 : ((bitsL many i).map fun pl => p (bitsL many (i - 2 ^ pl))).any id with
      | true =>
        refine iteF ?_
        obtain ⟨ts', h1, h2, h3, h4⟩ := stay (by rw [ga, c0]; rfl)
        exact ⟨ts', k4 _ _ h1, h2, h3.same k4, h4.trans k4, _, _, _, rfl⟩
      | false =>
        have c2 : goodM many p i = true := by rw [ga, c0]; rfl
        refine iteT ?_
        have oq4 := k4 _ _ oq3
        have dq : d ≠ q := fun z => by rw [z, oq] at nd3; cases nd3
        refine ⟨_, rfl, .inl ⟨rfl, _, SqL.of oq4⟩, _, rfl, q, _, _, rfl, rfl, oq4, by rw [sizeLine_eq, List.length_map]; omega, ts ++ [d], ?_, ?_, ?_, ?_, _, _, _, rfl⟩
        · rw [upd_same, List.map_append]; rfl
        · intro t ht
          rcases List.mem_append.mp ht with h | h
          · exact tq t h
          · rw [List.mem_singleton.mp h]; exact dq
        · rw [snoc, c2, if_pos rfl]
          refine paired_snoc (by rw [upd_ne dq]; exact k4 _ _ od) ?_
          have s34 := sets.same (k3.trans k4)
          have s34q : Paired (fun (t : Addr) (l : List Nat) => t ≠ q ∧ H4 t = some (.lst (placesV l))) ts (((List.range i).filter (goodM many p)).map (bitsL many)) := paired_mem s34 tq
          exact Paired.mapP s34q fun t l h => by rw [upd_ne h.1]; exact h.2
        · exact fun b o e => by rw [upd_ne (ne_of_none e nq)]; exact k4 _ _ (k23 _ _ e)
  · rintro σ H2 ⟨ts, oq, tq, sets, k2, s4, s5, s6, rfl⟩
    have sets : SetsAt H2 ts (goodL many p) := sets
    obtain ⟨zs, rfl, ez, hz⟩ := sets.zip
    have k12 := k1.trans k2
    have lz : zs.length ≤ 1024 := by
      have h1 : (zs.map (·.2)).length ≤ (List.range (2 ^ many)).length := by
        rw [← ez]
        unfold goodL
        rw [List.length_map]
        exact List.length_filter_le _ _
      rw [List.length_map, List.length_range] at h1
      omega
    refine ⟨_, rfl, hT.ext k12, fun fl cl H3 g3 T3 nf3 of3 oc3 => ?_⟩
    have nl : ∀ {b : Addr} {ys : List V}, H2 b = some (.lst ys) → H3 b = some (.lst ys) := fun e => g3.n _ _ e (fun _ z => by cases z)
    refine ⟨q, fl, zs.map fun z => (V.ref z.1, keyP z.2), LmR, rfl, rfl, SqL.of ?_, cal_key gN of3 oc3, ?_, ?_, ?_, ?_, fun r H4 nr or k4 => ?_⟩
    · rw [nl oq, List.map_map, List.map_map]; rfl
    · intro pr hpr
      obtain ⟨z, hz1, rfl⟩ := List.mem_map.mp hpr
      refine ⟨keyP_depth _, fun H' sm => ⟨z.1, z.2, rfl, sm _ _ (nl (hz z hz1)), fun t H5 nt ot s5 => ?_⟩⟩
      exact .tup (SqT.of ot) (.cons (.int _) (.cons (.lst (SqL.of (s5 _ _ (sm _ _ (nl (hz z hz1))))) (dpP _)) .nil))
    · rw [List.map_map]
      exact PySem.W.AllAlike.of (enc := fun z : Addr × List Nat => keyP z.2) fun a b => keyP_alike _ _
    · rw [List.map_map]
      exact PySem.W.Sortable.tuples (enc := fun z : Addr × List Nat => keyP z.2) fun b => ⟨_, _, rfl⟩
    · rw [List.length_map, sizeLine_eq]; omega
    · obtain ⟨e1, e2⟩ := sort_zip keyP zs
      rw [e1] at or
      have or : H4 r = some (.lst (((zs.mergeSort (PySem.W.dataLe false fun z => keyP z.2)).map (·.1)).map V.ref)) := by rw [or, List.map_map]; rfl
      refine hq H4 r _ (k12.free (g3.f _ nr)) or ?_ ((Grow.of k12).trans (g3.trans (.of k4))) (T3.ext k4)
      unfold leastO
      rw [ez, e2]
      exact sets_of _ fun z hz1 => k4 _ _ (nl (hz z (List.mem_mergeSort.mp hz1)))
end
end L2.TB
namespace L2.TB
open PySem PySem.Spec PyProof.Rows
open HF NdefX LamX
def spMostS (P : Program) (w : World) (K : PySem.W.Frag) (mg : Str → Option Value) (base : Heap) : Sp := fun vs H Q _ => ∃ (many : Nat) (g : Addr) (p : List Nat → Bool), vs = [.int (many : Nat), .ref g] ∧ many ≤ 10 ∧ Cal P w K mg base 6 g (TellR many p) H ∧ UpP many p ∧
  ∀ H' q ts, H q = none → H' q = some (.lst ((ts : List Addr).map V.ref)) → SetsAt H' ts (mostO many p) → Same H H' → Q (.ref q) H'
abbrev rAddI : R2 := rI0 fun i j => .int (i + j)
abbrev NMs : List Str := ["many", "tells", "tellings", "out", "mask", "others", "place"]
theorem scMs : FnScope NMs ["many", "tells"] (defScope sMostS) := ⟨rfl, rfl, rfl, by decide +kernel, rfl, by decide +kernel, by decide +kernel⟩
/-- the places that a mask lacks -/
def lackL (many m : Nat) : List Nat := (List.range many).filter fun pl => !hasB m pl
theorem lack_of {many m pl : Nat} (h : pl ∈ lackL many m) : pl < many ∧ hasB m pl = false := by
  obtain ⟨h1, h2⟩ := List.mem_filter.mp h
  exact ⟨List.mem_range.mp h1, by simpa using h2⟩
theorem lack_short {many m : Nat} : (lackL many m).length ≤ many := by
  have := List.length_filter_le (fun pl => !hasB m pl) (List.range many)
  rw [List.length_range] at this
  exact this
theorem lack_lt {many m pl : Nat} (h : pl < many) (hm : m < 2 ^ many) (no : hasB m pl = false) : m + 2 ^ pl < 2 ^ many := by
  unfold hasB at no
  have no := of_decide_eq_false no
  obtain ⟨d, rfl⟩ : ∃ d, many = pl + (d + 1) := ⟨many - pl - 1, by omega⟩
  have e : 2 ^ (pl + (d + 1)) = 2 ^ pl * (2 * 2 ^ d) := by rw [Nat.pow_add, Nat.pow_succ, Nat.mul_comm (2 ^ d) 2]
  rw [e] at hm ⊢
  have hp := Nat.two_pow_pos pl
  have h1 : m / 2 ^ pl < 2 * 2 ^ d := (Nat.div_lt_iff_lt_mul hp).mpr (by rw [Nat.mul_comm]; exact hm)
  have h2 : m / 2 ^ pl + 1 < 2 * 2 ^ d := by omega
  have h3 : m < 2 ^ pl * (m / 2 ^ pl + 1) := Nat.lt_mul_div_succ m hp
  have h4 : 2 ^ pl * (m / 2 ^ pl + 2) ≤ 2 ^ pl * (2 * 2 ^ d) := Nat.mul_le_mul_left _ (by omega)
  have h5 : 2 ^ pl * (m / 2 ^ pl + 2) = 2 ^ pl * (m / 2 ^ pl + 1) + 2 ^ pl := by rw [← Nat.mul_succ]
  omega
section
variable {P : Program} {w : World} {K : PySem.W.Frag} {mg : Str → Option Value} {base : Heap} {f fB fT : Addr} {fd fdB fdT : FuncData}
theorem ok_mostS (F : Fun K "most_sets" "most_sets" sMostS f fd) (FT : Fun K "_tellings" "_tellings" sTellings fT fdT) (gTs : mg "_tellings" = some (.ref fT)) (FB : Fun K "_places" "_places" sBits fB fdB) (gB : mg "_places" = some (.ref fB))
    (gR : mg "range" = none) (gY : mg "any" = none) (gA : mg "all" = none) (gS : mg "sorted" = none) : FnOk P w K mg base CX0 8 f fd ["many", "tells"] (spMostS P w K mg base) := by
  have GB := ok_bits (P := P) (w := w) (base := base) FB gR
  have bB := FB.binds (ps := ["many", "mask"]) fun _ _ _ _ _ _ us hl => match us, hl with | [_, _], _ => rfl
  have GT := ok_tellings (P := P) (w := w) (base := base) FT FB gB gR gY
  have bT := FT.binds (ps := ["many", "tells"]) fun _ _ _ _ _ _ us hl => match us, hl with | [_, _], _ => rfl
  refine F.ok scMs (fun vs H Q E h => by obtain ⟨many, g, p, e, _⟩ := h; rw [e]; rfl) fun cdv A outer s H vs Q E hr hsp => ?_
  obtain ⟨many, g, p, rfl, few, cal, up, hq⟩ := hsp
  have nd := scMs.nd
  have hu64 := hr.units
  have p2 := two_pow_le few
  refine ⟨_, pss_cons (ps_set (i := 2) nd rfl (Or.inr rfl) (pe_call GT hr rfl gTs FT.kp bT .nil pass0 (pa_cons (pv 0) (pa_cons (pv 1) pa_nil))))
    (pss_cons (ps_set (i := 3) nd rfl (Or.inl rfl) (pe_lst pa_nil))
    (pss_cons (ps_for PassesOwn.never rfl (pi_range1 rfl gR (pa_cons (pe_op (r := rShlN) op_shlN pe_int (pv 0)) pa_nil)) (pg_name (i := 4) nd rfl (Or.inr rfl))
      (pss_cons (ps_setLc (i := 5) (own := [("place", 6)]) (g := gName 6) (te := tVar 6) (tt := tNot (tBit K 4 6)) rfl nd rfl rfl (sw_true rfl rfl rfl rfl) (pi_range1 rfl gR (pa_cons (pv 0) pa_nil)) (blkOk_by (N := NMs) (sc := defScope sMostS) (by decide +kernel)) (fun _ _ _ _ _ => pg_name (i := 6) nd rfl (Or.inl rfl))
        (fun _ _ _ _ _ => pts_one (pt_not (pt_truth (pe_op (r := rOdd) op_odd (pe_op (r := rShrN) op_shrN (pv 4) (pv 6)) pe_int) (fun _ => rfl)))) (fun _ _ _ _ _ => pv 6))
      (pss_one (ps_if (PW.pt (pw_and (pt_not (pt_val (pe_ix (r := rIxL K) ix_list (pv 2) (pv 4) (fun _ _ => rfl)))) (pw_and1 (pt_val (pe_callB (r := rAll K) (cr_all rfl) rfl gA boot_all'
          (pa_cons (pe_lc (own := [("place", 6)]) (tt := tYes) (g := gName 6) (te := tOp (rIxL K) (tVar 2) (tOp rAddI (tVar 4) (tOp rShlN (tC (.int 1)) (tVar 6)))) rfl nd (pi_list (pv 5)) (blkOk_by (N := NMs) (sc := defScope sMostS) (by decide +kernel)) (fun _ _ _ _ _ => pg_name (i := 6) nd rfl (Or.inl rfl)) (fun _ _ _ _ _ => pts_nil)
          (fun _ _ _ _ _ => pe_ix (r := rIxL K) ix_list (pv 2) (pe_op (r := rAddI) op_add (pv 4) (pe_op (r := rShlN) op_shlN pe_int (pv 6))) (fun _ _ => rfl))) pa_nil))))))
        (pss_one (ps_expr (pe_bm PySem.F.plainAttrs_list PySem.F.slot_list_append PySem.F.type_list_append mt_append (pv 3) (pa_cons (pe_call GB (hr.mono (by decide)) rfl gB FB.kp bB .nil pass0 (pa_cons (pv 0) (pa_cons (pv 4) pa_nil))) pa_nil)))) pss_nil))))
    (pss_one (ps_ret (pe_callB (r := rSortedD K) (cr_sortedD hu64) rfl gS (by decide +kernel) (pa_cons (pv 3) pa_nil)))))), ?_⟩
  refine ⟨_, rfl, _, rfl, many, g, p, rfl, few, cal, up, fun H1 q1 n1 o1 k1 => ?_⟩
  refine ⟨Nat.zero_le _, fun q nq => ?_⟩
  have pw0 : (0 : Int) ≤ ((2 ^ many : Nat) : Int) := Int.natCast_nonneg _
  have pw1 : ((2 ^ many : Nat) : Int) ≤ 1024 := Int.ofNat_le.mpr p2
  refine ⟨_, rfl, 1, many, rfl, rfl, cshl1 few, ?_⟩
  rw [shl1]
  refine ⟨((2 ^ many : Nat) : Int), rfl, Int.le_trans (by decide) pw0, Int.lt_of_le_of_lt pw1 (by decide), for_range (n := 2 ^ many) (fun i σ H' => ∃ ts : List Addr, H' q = some (.lst (ts.map V.ref)) ∧ (∀ t ∈ ts, t ≠ q) ∧ SetsAt H' ts (((List.range i).filter (mostM many p)).map (bitsL many)) ∧ Same H1 H' ∧
      ∃ s4 s5 s6, σ = [some (.int (many : Nat)), some (.ref g), some (.ref q1), some (.ref q), s4, s5, s6])
    ⟨[], upd_same, (fun t ht => by cases ht), .nil, same_new nq, _, _, _, rfl⟩ ?_ ?_⟩
  · rintro i σ H2 hi ⟨ts, oq, tq, sets, k2, s4, s5, s6, rfl⟩
    have ei : ((0 : Int) + (i : Nat)) = ((i : Nat) : Int) := by omega
    rw [ei]
    have lts : ts.length ≤ 1024 := by
      have h1 := Paired.length sets
      have h2 := List.length_filter_le (mostM many p) (List.range i)
      rw [List.length_map] at h1
      rw [List.length_range] at h2
      omega
    -- the places that it lacks
    refine ⟨_, rfl, (many : Int), rfl, by omega, by omega, ?_⟩
    refine lc_genO ((List.range many).map fun pl => if (!hasB i pl) = true then some (V.int (pl : Nat)) else none) (by rw [List.length_map, List.length_range]; omega) (fun j H' s lt => ?_) (fun H' s => ?_) ?_ ?_
    · rw [List.length_map, List.length_range] at lt
      show j < _
      simpa using lt
    · rw [List.length_map, List.length_range]
      show _ ≤ _
      simp
    · rintro j v o H3 H4 Cn Nn eo s3 ⟨rfl, rfl⟩ yes no
      have lt : j < many := by
        have := (List.getElem?_eq_some_iff.mp eo).1
        simpa using this
      rw [List.getElem?_map, List.getElem?_range lt] at eo
      obtain rfl := Option.some.inj eo
      refine ⟨rfl, ?_⟩
      have e : (i : Int) / 2 ^ j = ((i / 2 ^ j : Nat) : Int) := by simp
      refine ⟨_, rfl, _, rfl, (i : Int), j, rfl, by simp, i / 2 ^ j, by rw [e], rfl, hasB i j, ?_, ?_⟩
      · show hasB i j = (((i / 2 ^ j % 2 : Nat) : Int) != 0)
        unfold hasB
        by_cases c : i / 2 ^ j % 2 = 1
        · rw [decide_eq_true c, c]; rfl
        · have c0 : i / 2 ^ j % 2 = 0 := by omega
          rw [decide_eq_false c, c0]; rfl
      · cases c : hasB i j with
        | false => exact ⟨_, rfl, yes _ (by show (if (!hasB i j) = true then _ else _) = _; rw [c, if_pos (by rfl)]; simp) _ (Same.refl _)⟩
        | true => exact no (by show (if (!hasB i j) = true then _ else _) = _; rw [c, if_neg (by simp)]) _ (Same.refl _)
    intro H3 d nd3 od k3
    rw [opt_list] at od
    have od : H3 d = some (.lst (placesV (lackL many i))) := od
    have o13 := k3 _ _ (k2 _ _ o1)
    have oq3 := k3 _ _ oq
    have snoc : ((List.range (i + 1)).filter (mostM many p)).map (bitsL many) = ((List.range i).filter (mostM many p)).map (bitsL many) ++ if mostM many p i = true then [bitsL many i] else [] := by rw [List.range_succ, filt_snoc]
    have k23 := k2.trans k3
    have stay : mostM many p i = false → ∃ ts : List Addr, H3 q = some (.lst (ts.map V.ref)) ∧ (∀ t ∈ ts, t ≠ q) ∧ SetsAt H3 ts (((List.range (i + 1)).filter (mostM many p)).map (bitsL many)) ∧ Same H1 H3 := fun z => by
      refine ⟨ts, oq3, tq, ?_, k23⟩
      rw [snoc, z, if_neg (by simp), List.append_nil]
      exact sets.same k3
    refine ⟨_, rfl, _, rfl, _, _, _, _, rfl, rfl, SqL.of o13, atI_nat (v := V.bl (p (bitsL many i))) ?_, _, rfl, ?_⟩
    · rw [List.getElem?_map, tellings_at hi]; rfl
    cases c1 : p (bitsL many i) with
    | true =>
      refine iteF ?_
      obtain ⟨ts', h1, h2, h3, h4⟩ := stay (by unfold mostM; rw [c1]; rfl)
      exact ⟨ts', h1, h2, h3, h4, _, _, _, rfl⟩
    | false =>
      refine iteT ?_
      refine ⟨_, rfl, d, rfl, ⟨_, SqL.of od⟩, ?_⟩
      refine lc_gen ((lackL many i).map fun pl => V.bl (p (bitsL many (i + 2 ^ pl)))) (by have := lack_short (many := many) (m := i); rw [List.length_map]; omega) (fun j H' s lt => ⟨_, _, SqL.of (s _ _ od), List.getElem?_eq_getElem (by unfold placesV; rw [List.length_map]; rw [List.length_map] at lt; exact lt)⟩) (fun H' s => ⟨_, SqL.of (s _ _ od), by unfold placesV; rw [List.length_map, List.length_map]; exact Nat.le_refl _⟩) ?_ ?_
      · rintro j v y H4 H5 Cn Nn ey s3 ⟨rfl, ev⟩ yes
        have ev := ev _ (SqL.of (s3 _ _ od))
        unfold placesV at ev
        rw [List.getElem?_map] at ev ey
        obtain ⟨pl, ep, rfl⟩ := Option.map_eq_some_iff.mp ev
        rw [ep] at ey
        obtain rfl : V.bl (p (bitsL many (i + 2 ^ pl))) = y := Option.some.inj ey
        obtain ⟨b1, b2⟩ := lack_of (List.mem_of_getElem? ep)
        have ev2 : (i : Int) + 1 * 2 ^ pl = ((i + 2 ^ pl : Nat) : Int) := by rw [shl1]; omega
        refine ⟨rfl, ?_⟩
        refine ⟨_, rfl, _, rfl, _, rfl, 1, pl, rfl, rfl, cshl1 (by omega), (i : Int), 1 * 2 ^ pl, rfl, rfl, ?_⟩
        show rIxL K (V.ref q1) (V.int ((i : Int) + 1 * 2 ^ pl)) H5 _
        rw [ev2]
        refine ⟨_, _, _, _, rfl, rfl, SqL.of (s3 _ _ o13), atI_nat (v := V.bl (p (bitsL many (i + 2 ^ pl)))) ?_, yes _ (Same.refl _)⟩
        rw [List.getElem?_map, tellings_at (lack_lt b1 hi b2)]
        rfl
      intro H4 D nD oD k4
      have oD : H4 D = some (.lst (((lackL many i).map fun pl => p (bitsL many (i + 2 ^ pl))).map V.bl)) := by rw [oD, List.map_map]; rfl
      refine ⟨D, _, rfl, SqL.of oD, _, rfl, ?_⟩
      have ga : mostM many p i = ((lackL many i).map fun pl => p (bitsL many (i + 2 ^ pl))).all id := by
        unfold mostM
        rw [c1, List.all_map]
        rfl
      cases c0 : ((lackL many i).map fun pl => p (bitsL many (i + 2 ^ pl))).all id with
      | false =>
        refine iteF ?_
        obtain ⟨ts', h1, h2, h3, h4⟩ := stay (by rw [ga, c0])
        exact ⟨ts', k4 _ _ h1, h2, h3.same k4, h4.trans k4, _, _, _, rfl⟩
      | true =>
        have c2 : mostM many p i = true := by rw [ga, c0]
        refine iteT ?_
        have oq4 := k4 _ _ oq3
        refine ⟨_, rfl, .inl ⟨rfl, _, SqL.of oq4⟩, _, rfl, _, rfl, many, i, rfl, by omega, fun H5 e ne5 oe k5 => ?_⟩
        have oe : H5 e = some (.lst (placesV (bitsL many i))) := oe
        have oq5 := k5 _ _ oq4
        have eq : e ≠ q := fun z => by rw [z, oq4] at ne5; cases ne5
        refine ⟨q, _, _, rfl, rfl, oq5, by rw [sizeLine_eq, List.length_map]; omega, ts ++ [e], ?_, ?_, ?_, ?_, _, _, _, rfl⟩
        · rw [upd_same, List.map_append]; rfl
        · intro t ht
          rcases List.mem_append.mp ht with h | h
          · exact tq t h
          · rw [List.mem_singleton.mp h]; exact eq
        · rw [snoc, c2, if_pos rfl]
          refine paired_snoc (by rw [upd_ne eq]; exact oe) ?_
          exact Paired.mapP (paired_mem (sets.same (k3.trans (k4.trans k5))) tq) fun t l h => by rw [upd_ne h.1]; exact h.2
        · exact fun b o e => by rw [upd_ne (ne_of_none e nq)]; exact k5 _ _ (k4 _ _ (k23 _ _ e))
  · rintro σ H2 ⟨ts, oq, tq, sets, k2, s4, s5, s6, rfl⟩
    have sets : SetsAt H2 ts (mostR many p) := sets
    obtain ⟨zs, rfl, ez, hz⟩ := sets.zip
    have k12 := k1.trans k2
    have lz : zs.length ≤ 1024 := by
      have h1 : (zs.map (·.2)).length ≤ (List.range (2 ^ many)).length := by
        rw [← ez]
        unfold mostR
        rw [List.length_map]
        exact List.length_filter_le _ _
      rw [List.length_map, List.length_range] at h1
      omega
    refine ⟨_, rfl, q, zs.map fun z => (V.ref z.1, encP z.2), rfl, SqL.of ?_, ?_, ?_, ?_, ?_, fun r nr => ?_⟩
    · rw [oq, List.map_map, List.map_map]; rfl
    · intro pr hpr
      obtain ⟨z, hz1, rfl⟩ := List.mem_map.mp hpr
      exact ⟨.lst (SqL.of (hz z hz1)) (dpP _), encP_depth _⟩
    · rw [List.map_map]
      exact PySem.W.AllAlike.of (enc := fun z : Addr × List Nat => encP z.2) fun a b => encP_alike _ _
    · rw [List.map_map]
      exact PySem.W.Sortable.others (enc := fun z : Addr × List Nat => encP z.2) fun b => ⟨by unfold encP; simp, fun xs => by unfold encP; simp⟩
    · rw [List.length_map, sizeLine_eq]; omega
    · obtain ⟨e1, e2⟩ := sort_zip encP zs
      rw [e1]
      have k4 := same_new (o := .lst ((zs.mergeSort (PySem.W.dataLe false fun z => encP z.2)).map fun z => V.ref z.1)) nr
      refine hq _ r _ (k12.free nr) (by rw [upd_same, List.map_map]; rfl) ?_ (k12.trans k4)
      unfold mostO
      rw [ez, e2]
      exact sets_of _ fun z hz1 => k4 _ _ (hz z (List.mem_mergeSort.mp hz1))
end
end L2.TB
namespace L2.TB
open PySem PySem.Spec PyProof.Rows
/-! masks, sets of places, files: the same -/
theorem div_up {m q : Nat} (h : 2 ^ q ≤ m) : m / 2 ^ q = (m - 2 ^ q) / 2 ^ q + 1 := by
  have e : m = (m - 2 ^ q) + 2 ^ q := by omega
  conv => lhs; rw [e]
  exact Nat.add_div_right _ (Nat.two_pow_pos q)
theorem hasB_but {m q : Nat} (h : hasB m q = true) (r : Nat) : hasB (m - 2 ^ q) r = (hasB m r && !decide (r = q)) := by
  have le := hasB_sub h
  have e : m = (m - 2 ^ q) + 2 ^ q := by omega
  have odd : m / 2 ^ q % 2 = 1 := by unfold hasB at h; exact of_decide_eq_true h
  have up := div_up le
  rcases Nat.lt_trichotomy r q with lt | rfl | gt
  · have h1 := hasB_add (m := m - 2 ^ q) lt
    rw [← e] at h1
    rw [h1, decide_eq_false (by omega : ¬ r = q)]
    simp
  · have : hasB (m - 2 ^ r) r = false := by
      unfold hasB
      exact decide_eq_false (by omega)
    rw [this]
    simp
  · obtain ⟨d, rfl⟩ : ∃ d, r = q + 1 + d := ⟨r - q - 1, by omega⟩
    have e2 : 2 ^ (q + 1 + d) = 2 ^ q * 2 * 2 ^ d := by rw [Nat.pow_add, Nat.pow_succ]
    have h3 : (m - 2 ^ q) / 2 ^ q / 2 = m / 2 ^ q / 2 := by omega
    rw [decide_eq_false (by omega : ¬ q + 1 + d = q)]
    unfold hasB
    rw [e2, ← Nat.div_div_eq_div_mul, ← Nat.div_div_eq_div_mul, ← Nat.div_div_eq_div_mul, ← Nat.div_div_eq_div_mul, h3]
    simp
theorem hasB_put {m q : Nat} (h : hasB m q = false) (r : Nat) : hasB (m + 2 ^ q) r = (hasB m r || decide (r = q)) := by
  have ev : m / 2 ^ q % 2 ≠ 1 := by unfold hasB at h; exact of_decide_eq_false h
  have yes : hasB (m + 2 ^ q) q = true := by
    unfold hasB
    rw [Nat.add_div_right _ (Nat.two_pow_pos q)]
    exact decide_eq_true (by omega)
  have h2 := hasB_but yes r
  rw [Nat.add_sub_cancel] at h2
  by_cases c : r = q
  · subst c
    rw [yes]
    simp
  · rw [h2, decide_eq_false c]
    simp
theorem bits_but {many m q : Nat} (h : hasB m q = true) : bitsL many (m - 2 ^ q) = (bitsL many m).filter fun r => !decide (r = q) := by
  unfold bitsL
  rw [List.filter_filter]
  refine List.filter_congr fun r _ => ?_
  rw [hasB_but h, Bool.and_comm]
theorem getD_inj {own : List Str} (nd : own.Nodup) {p q : Nat} (hp : p < own.length) (hq : q < own.length) : own.getD p (Str.ofString "") = own.getD q (Str.ofString "") ↔ p = q := by
  rw [List.getD_eq_getElem?_getD, List.getD_eq_getElem?_getD, List.getElem?_eq_getElem hp, List.getElem?_eq_getElem hq]
  constructor
  · intro e
    exact (List.getElem?_inj hp nd).mp (by rw [List.getElem?_eq_getElem hp, List.getElem?_eq_getElem hq]; exact congrArg some e)
  · rintro rfl; rfl
theorem atP_but {own : List Str} (nd : own.Nodup) {ps : List Nat} {q : Nat} (lt : ∀ p ∈ ps, p < own.length) (hq : q < own.length) : atP own (ps.filter fun r => !decide (r = q)) = butS (atP own ps) (own.getD q (Str.ofString "")) := by
  unfold atP butS
  rw [List.filter_map]
  congr 1
  refine List.filter_congr fun r hr => ?_
  show (!decide (r = q)) = !decide (own.getD r (Str.ofString "") = own.getD q (Str.ofString ""))
  congr 1
  exact decide_eq_decide.mpr (getD_inj nd (lt r hr) hq).symm
theorem bits_ltn {n m : Nat} : ∀ p ∈ bitsL n m, p < n := fun p hp => (bit_of hp).1
theorem tells_mono {ns : List Str} {tbl : List (List Int)} {x : Str} {a b : List Str} (h : ∀ y ∈ a, y ∈ b) (t : Tells ns tbl a x) : Tells ns tbl b x := fun u hu v hv e => t u hu v hv (by
  refine List.map_inj_left.mpr fun y hy => ?_
  exact List.map_inj_left.mp e y (h y hy))
def tellG (T : List Str → Prop) [DecidablePred T] (own : List Str) : List Nat → Bool := fun ps => decide (T (atP own ps))
theorem up_tellG {T : List Str → Prop} [DecidablePred T] (mono : ∀ a b : List Str, (∀ y ∈ a, y ∈ b) → T a → T b) (own : List Str) : UpP own.length (tellG T own) := fun mask q _ _ hb h => by
  unfold tellG at h ⊢
  refine decide_eq_true (mono _ _ (fun y hy => ?_) (of_decide_eq_true h))
  obtain ⟨r, hr, rfl⟩ := List.mem_map.mp hy
  rw [bits_but hb] at hr
  exact List.mem_map.mpr ⟨r, (List.mem_filter.mp hr).1, rfl⟩
theorem files_eq (own : List Str) : filesL own = (List.range (2 ^ own.length)).map fun m => atP own (bitsL own.length m) := by
  refine List.ext_getElem? fun m => ?_
  by_cases h : m < 2 ^ own.length
  · rw [files_at own m h, List.getElem?_map, List.getElem?_range h]
    rfl
  · rw [List.getElem?_eq_none (by rw [files_len]; omega), List.getElem?_eq_none (by rw [List.length_map, List.length_range]; omega)]
/-- a filter of the files that says what is in L, and its elements -/
theorem filter_files {own : List Str} {c : List Str → Bool} {gd : Nat → Bool} (h : ∀ m, m < 2 ^ own.length → (c (atP own (bitsL own.length m)) = gd m)) :
    (filesL own).filter c = (((List.range (2 ^ own.length)).filter gd).map (bitsL own.length)).map (atP own) := by
  rw [files_eq, List.filter_map, List.map_map]
  congr 1
  exact List.filter_congr fun m hm => h m (List.mem_range.mp hm)
theorem least_eq {T : List Str → Prop} [DecidablePred T] {own : List Str} (mono : ∀ a b : List Str, (∀ y ∈ a, y ∈ b) → T a → T b) (nd : own.Nodup) : leastG T own = (goodL own.length (tellG T own)).map (atP own) := by
  have e : leastG T own = (filesL own).filter fun l => (!((telG T own).any fun o => lessF o l)) && decide (T l) := by
    unfold leastG
    conv => lhs; arg 2; unfold telG
    rw [List.filter_filter]
  rw [e]
  unfold goodL
  refine filter_files fun m hm => ?_
  have hl : atP own (bitsL own.length m) ∈ filesL own := by
    rw [files_eq]
    exact List.mem_map.mpr ⟨m, List.mem_range.mpr hm, rfl⟩
  have mem : atP own (bitsL own.length m) ∈ leastG T own ↔ ((!((telG T own).any fun o => lessF o (atP own (bitsL own.length m)))) && decide (T (atP own (bitsL own.length m)))) = true := by
    rw [e, List.mem_filter]
    exact ⟨fun h => h.2, fun h => ⟨hl, h⟩⟩
  have key : (∀ y ∈ atP own (bitsL own.length m), ¬ T (butS (atP own (bitsL own.length m)) y)) ↔ ∀ pl ∈ bitsL own.length m, tellG T own (bitsL own.length (m - 2 ^ pl)) = false := by
    constructor
    · intro h pl hp
      obtain ⟨b1, b2⟩ := bit_of hp
      have h1 := h _ (List.mem_map.mpr ⟨pl, hp, rfl⟩)
      unfold tellG
      rw [bits_but b2, atP_but nd bits_ltn b1]
      exact decide_eq_false h1
    · intro h y hy
      obtain ⟨pl, hp, rfl⟩ := List.mem_map.mp hy
      obtain ⟨b1, b2⟩ := bit_of hp
      have h1 := h pl hp
      unfold tellG at h1
      rw [bits_but b2, atP_but nd bits_ltn b1] at h1
      exact of_decide_eq_false h1
  rw [Bool.eq_iff_iff, ← mem, least_mem mono nd, key]
  unfold goodM
  rw [Bool.and_eq_true, Bool.not_eq_true', List.any_eq_false]
  constructor
  · rintro ⟨_, h2, h3⟩
    exact ⟨decide_eq_true h2, fun pl hp => by rw [h3 pl hp]; simp⟩
  · rintro ⟨h2, h3⟩
    exact ⟨(files_mem own _).mp hl, of_decide_eq_true h2, fun pl hp => by simpa using h3 pl hp⟩
theorem most_eq {T : List Str → Prop} [DecidablePred T] {own : List Str} (mono : ∀ a b : List Str, (∀ y ∈ a, y ∈ b) → T a → T b) (nd : own.Nodup) : mostG T own = (mostR own.length (tellG T own)).map (atP own) := by
  have e : mostG T own = (filesL own).filter fun l => (!((silG T own).any fun o => lessF l o)) && !decide (l ∈ telG T own) := by
    unfold mostG
    conv => lhs; arg 2; unfold silG
    rw [List.filter_filter]
  rw [e]
  unfold mostR
  refine filter_files fun m hm => ?_
  have hl : atP own (bitsL own.length m) ∈ filesL own := by
    rw [files_eq]
    exact List.mem_map.mpr ⟨m, List.mem_range.mpr hm, rfl⟩
  have mem : atP own (bitsL own.length m) ∈ mostG T own ↔ ((!((silG T own).any fun o => lessF (atP own (bitsL own.length m)) o)) && !decide (atP own (bitsL own.length m) ∈ telG T own)) = true := by
    rw [e, List.mem_filter]
    exact ⟨fun h => h.2, fun h => ⟨hl, h⟩⟩
  have inn : ∀ pl, pl < own.length → (own.getD pl (Str.ofString "") ∈ atP own (bitsL own.length m) ↔ hasB m pl = true) := fun pl hp => by
    constructor
    · intro h
      obtain ⟨r, hr, er⟩ := List.mem_map.mp h
      obtain ⟨b1, b2⟩ := bit_of hr
      obtain rfl := (getD_inj nd b1 hp).mp er
      exact b2
    · intro h
      exact List.mem_map.mpr ⟨pl, List.mem_filter.mpr ⟨List.mem_range.mpr hp, h⟩, rfl⟩
  have sameT : ∀ pl, pl < own.length → hasB m pl = false → (T (own.getD pl (Str.ofString "") :: atP own (bitsL own.length m)) ↔ T (atP own (bitsL own.length (m + 2 ^ pl)))) := fun pl hp hb => by
    constructor
    · refine mono _ _ fun y hy => ?_
      rcases List.mem_cons.mp hy with rfl | h
      · exact List.mem_map.mpr ⟨pl, List.mem_filter.mpr ⟨List.mem_range.mpr hp, by rw [hasB_put hb]; simp⟩, rfl⟩
      · obtain ⟨r, hr, rfl⟩ := List.mem_map.mp h
        obtain ⟨b1, b2⟩ := bit_of hr
        exact List.mem_map.mpr ⟨r, List.mem_filter.mpr ⟨List.mem_range.mpr b1, by rw [hasB_put hb, b2]; rfl⟩, rfl⟩
    · refine mono _ _ fun y hy => ?_
      obtain ⟨r, hr, rfl⟩ := List.mem_map.mp hy
      obtain ⟨b1, b2⟩ := bit_of hr
      rw [hasB_put hb] at b2
      rcases (Bool.or_eq_true _ _).mp b2 with h | h
      · exact List.mem_cons_of_mem _ (List.mem_map.mpr ⟨r, List.mem_filter.mpr ⟨List.mem_range.mpr b1, h⟩, rfl⟩)
      · obtain rfl := of_decide_eq_true h
        exact List.mem_cons_self
  have key : (∀ y ∈ own, y ∉ atP own (bitsL own.length m) → T (y :: atP own (bitsL own.length m))) ↔ ∀ pl ∈ lackL own.length m, tellG T own (bitsL own.length (m + 2 ^ pl)) = true := by
    constructor
    · intro h pl hp
      obtain ⟨b1, b2⟩ := lack_of hp
      have hy : own.getD pl (Str.ofString "") ∈ own := by
        rw [List.getD_eq_getElem?_getD, List.getElem?_eq_getElem b1]
        exact List.getElem_mem _
      have h1 := h _ hy (fun z => by rw [(inn pl b1).mp z] at b2; cases b2)
      exact decide_eq_true ((sameT pl b1 b2).mp h1)
    · intro h y hy no
      obtain ⟨pl, hp⟩ := List.mem_iff_getElem?.mp hy
      have b1 := (List.getElem?_eq_some_iff.mp hp).1
      have ey : own.getD pl (Str.ofString "") = y := by rw [List.getD_eq_getElem?_getD, hp]; rfl
      subst ey
      have b2 : hasB m pl = false := by
        cases c : hasB m pl with
        | false => rfl
        | true => exact absurd ((inn pl b1).mpr c) no
      exact (sameT pl b1 b2).mpr (of_decide_eq_true (h pl (List.mem_filter.mpr ⟨List.mem_range.mpr b1, by rw [b2]; rfl⟩)))
  rw [Bool.eq_iff_iff, ← mem, most_mem mono nd, key]
  unfold mostM
  rw [Bool.and_eq_true, Bool.not_eq_true', List.all_eq_true]
  constructor
  · rintro ⟨_, h2, h3⟩
    exact ⟨decide_eq_false h2, fun pl hp => h3 pl hp⟩
  · rintro ⟨h2, h3⟩
    exact ⟨(files_mem own _).mp hl, of_decide_eq_false h2, fun pl hp => h3 pl hp⟩
/-! the order -/
theorem ints_eqv : ∀ a b : List Nat, PyData.eqvAll (a.map fun q => PyData.int (q : Nat)) (b.map fun q => PyData.int (q : Nat)) = decide (a = b)
  | [], [] => by simp [PyData.eqvAll]
  | [], _ :: _ => by simp [PyData.eqvAll]
  | _ :: _, [] => by simp [PyData.eqvAll]
  | x :: a, y :: b => by
    rw [List.map_cons, List.map_cons, PyData.eqvAll, ints_eqv a b, PyData.eqv]
    by_cases h1 : x = y
    · by_cases h2 : a = b <;> simp [h1, h2]
    · have h3 : ¬ (x : Int) = (y : Int) := by omega
      simp [h1, h3]
theorem lt_irrefl (d : PyData) : PySem.W.dataLt d d = false := by
  unfold PySem.W.dataLt
  exact PyProof.Rows.lex_irrefl _
theorem enc_idx {own : List Str} (nd : own.Nodup) {ps : List Nat} (lt : ∀ p ∈ ps, p < own.length) : (atP own ps).map (fun x => PyData.int (idx own x : Nat)) = ps.map fun q => PyData.int (q : Nat) := by
  unfold atP
  rw [List.map_map]
  refine List.map_congr_left fun p hp => ?_
  show PyData.int (idx own (own.getD p (Str.ofString "")) : Nat) = _
  have : idx own (own.getD p (Str.ofString "")) = p := by
    unfold idx
    rw [List.getD_eq_getElem?_getD, List.getElem?_eq_getElem (lt p hp)]
    exact List.Nodup.idxOf_getElem nd p (lt p hp)
  rw [this]
theorem lt_keyF {own : List Str} (nd : own.Nodup) {a b : List Nat} (la : ∀ p ∈ a, p < own.length) (lb : ∀ p ∈ b, p < own.length) : PySem.W.dataLt (keyP a) (keyP b) = PySem.W.dataLt (encF own (atP own a)) (encF own (atP own b)) := by
  by_cases e : a = b
  · subst e
    rw [lt_irrefl, lt_irrefl]
  · have l1 : (atP own a).length = a.length := by unfold atP; rw [List.length_map]
    have l2 : (atP own b).length = b.length := by unfold atP; rw [List.length_map]
    have ne : PyData.eqv (.list (a.map fun q => PyData.int (q : Nat))) (.list (b.map fun q => PyData.int (q : Nat))) = false := by
      rw [PyData.eqv, ints_eqv]
      exact decide_eq_false e
    have al : PySem.W.alike (.list (a.map fun q => PyData.int (q : Nat))) (.list (b.map fun q => PyData.int (q : Nat))) = true := encP_alike a b
    unfold encF keyP
    rw [enc_idx nd la, enc_idx nd lb, l1, l2, PySem.W.dataLt_pair (by rfl) al, PySem.W.dataLt_tuple, PySem.W.dataLt_cons (by rfl), PySem.W.dataLt_cons al, ne]
    simp only [Bool.false_eq_true, if_false]
theorem lt_encF {own : List Str} (nd : own.Nodup) {a b : List Nat} (la : ∀ p ∈ a, p < own.length) (lb : ∀ p ∈ b, p < own.length) : PySem.W.dataLt (encP a) (encP b) = PySem.W.dataLt (enc2 own (atP own a)) (enc2 own (atP own b)) := by
  by_cases e : a = b
  · subst e
    rw [lt_irrefl, lt_irrefl]
  · have ne : PyData.eqv (.list (a.map fun q => PyData.int (q : Nat))) (.list (b.map fun q => PyData.int (q : Nat))) = false := by
      rw [PyData.eqv, ints_eqv]
      exact decide_eq_false e
    have al : PySem.W.alike (.list (a.map fun q => PyData.int (q : Nat))) (.list (b.map fun q => PyData.int (q : Nat))) = true := encP_alike a b
    unfold enc2 encP
    rw [enc_idx nd la, enc_idx nd lb, PySem.W.dataLt_tuple, PySem.W.dataLt_cons al, ne]
    rfl
theorem good_lt {n : Nat} {p : List Nat → Bool} : ∀ l ∈ goodL n p, ∀ q ∈ l, q < n := fun l hl => by
  obtain ⟨m, _, rfl⟩ := List.mem_map.mp hl
  exact bits_ltn
theorem most_lt {n : Nat} {p : List Nat → Bool} : ∀ l ∈ mostR n p, ∀ q ∈ l, q < n := fun l hl => by
  obtain ⟨m, _, rfl⟩ := List.mem_map.mp hl
  exact bits_ltn
theorem leastO_eq {T : List Str → Prop} [DecidablePred T] {own : List Str} (mono : ∀ a b : List Str, (∀ y ∈ a, y ∈ b) → T a → T b) (nd : own.Nodup) : (leastO own.length (tellG T own)).map (atP own) = inOrder own (leastG T own) := by
  unfold leastO inOrder
  rw [least_eq mono nd]
  refine List.map_mergeSort fun a ha b hb => ?_
  show (!PySem.W.dataLt (keyP b) (keyP a)) = !PySem.W.dataLt (encF own (atP own b)) (encF own (atP own a))
  rw [lt_keyF nd (good_lt b hb) (good_lt a ha)]
theorem mostO_eq {T : List Str → Prop} [DecidablePred T] {own : List Str} (mono : ∀ a b : List Str, (∀ y ∈ a, y ∈ b) → T a → T b) (nd : own.Nodup) : (mostO own.length (tellG T own)).map (atP own) = mostSG T own := by
  unfold mostO mostSG
  rw [most_eq mono nd]
  refine List.map_mergeSort fun a ha b hb => ?_
  show (!PySem.W.dataLt (encP b) (encP a)) = !PySem.W.dataLt (enc2 own (atP own b)) (enc2 own (atP own a))
  rw [lt_encF nd (most_lt b hb) (most_lt a ha)]
end L2.TB
namespace L2.TB
open PySem PySem.Spec PyProof.Rows
/-! the law's look whether two things are the same -/
theorem kit_none2 {K : PySem.W.Frag} {t : String} (h1 : kitB t "list" = some false) (h2 : kitB t "tuple" = some false) : PySem.W.kitAny K (.type t) [.type "list", .type "tuple"] = some false := by
  unfold PySem.W.kitAny
  rw [kit_ty (K := K) h1]
  dsimp only
  unfold PySem.W.kitAny
  rw [kit_ty (K := K) h2]
  rfl
theorem kit_none3 {K : PySem.W.Frag} {t : String} (h0 : kitB t "int" = some false) (h1 : kitB t "list" = some false) (h2 : kitB t "tuple" = some false) : PySem.W.kitAny K (.type t) [.type "int", .type "list", .type "tuple"] = some false := by
  unfold PySem.W.kitAny
  rw [kit_ty (K := K) h0]
  exact kit_none2 h1 h2
abbrev NSm : List Str := ["found", "due", "x", "y"]
theorem scSame : FnScope NSm ["found", "due"] (defScope sSame) := ⟨rfl, rfl, rfl, by decide +kernel, rfl, by decide +kernel, by decide +kernel⟩
/-- the names that it reads -/
structure Sm (mg : Str → Option Value) : Prop where
  nI : mg "isinstance" = none
  nL : mg "list" = none
  nT : mg "tuple" = none
  nInt : mg "int" = none
  nB : mg "bool" = none
  nN : mg "len" = none
  nA : mg "all" = none
  nZ : mg "zip" = none
/-- alike, lists to this depth -/
inductive Alk (H : Hp) : Nat → V → V → Prop
  | int (k : Int) : Alk H 0 (.int k) (.int k)
  | bl (k : Bool) : Alk H 0 (.bl k) (.bl k)
  | str (x : Str) : Alk H 0 (.str x) (.str x)
  | lst {n : Nat} {a b : Addr} {xs ys : List V} : H a = some (.lst xs) → H b = some (.lst ys) → xs.length = ys.length → xs.length < 1000 → (∀ (i : Nat) (x y : V), xs[i]? = some x → ys[i]? = some y → Alk H n x y) → Alk H (n + 1) (.ref a) (.ref b)
  | up {n : Nat} {x y : V} : Alk H n x y → Alk H (n + 1) x y
theorem Alk.same {H H' : Hp} (s : Same H H') {n : Nat} {x y : V} (h : Alk H n x y) : Alk H' n x y := by
  induction h with
  | int k => exact .int k
  | bl k => exact .bl k
  | str x => exact .str x
  | lst ha hb l sh _ ih => exact .lst (s _ _ ha) (s _ _ hb) l sh ih
  | up _ ih => exact .up ih
def spSameT (n : Nat) : Sp := fun vs H Q _ => ∃ x y : V, vs = [x, y] ∧ Alk H n x y ∧ ∀ H', Same H H' → Q (.bl true) H'
/-- two promises of one def -/
theorem fnOr {P : Program} {w : World} {K : PySem.W.Frag} {mg : Str → Option Value} {base : Heap} {CX : CXT} {k : Nat} {f : Addr} {fd : FuncData} {ps : List Str} {sp sp1 sp2 : Sp} (F1 : FnOk P w K mg base CX k f fd ps sp1) (F2 : FnOk P w K mg base CX k f fd ps sp2)
    (h : ∀ vs H Q E, sp vs H Q E → sp1 vs H Q E ∨ sp2 vs H Q E) : FnOk P w K mg base CX k f fd ps sp :=
  ⟨fun vs H Q E q => (h _ _ _ _ q).elim (F1.len vs H Q E) (F2.len vs H Q E), fun A outer s H args us vs Q E hr he hb hv hs => (h _ _ _ _ hs).elim (F1.run A outer s H args us vs Q E hr he hb hv) (F2.run A outer s H args us vs Q E hr he hb hv)⟩
section
variable {P : Program} {w : World} {K : PySem.W.Frag} {mg : Str → Option Value} {base : Heap} {f : Addr} {fd : FuncData}
theorem ok_sameT (F : Fun K "_law_same" "_law_same" sSame f fd) (gSm : mg "_law_same" = some (.ref f)) (M : Sm mg) : ∀ n : Nat, FnOk P w K mg base CX0 (n + 1) f fd ["found", "due"] (spSameT n)
  | 0 => by
    refine F.ok scSame (fun vs H Q E h => by obtain ⟨x, y, e, _⟩ := h; rw [e]; rfl) fun cdv A outer s H vs Q E hr hsp => ?_
    obtain ⟨x, y, rfl, al, hq⟩ := hsp
    cases al with
    | int k =>
      refine ⟨_, pss_cons (ps_if (pt_val (pe_callB (r := rIsiT K) call_isiT rfl M.nI boot_isi (pa_cons (pv 1) (pa_cons (pe_tup (pa_cons (pe_bltn (v := .ty "list") rfl M.nL boot_list' rfl) (pa_cons (pe_bltn (v := .ty "tuple") rfl M.nT boot_tuple' rfl) pa_nil))) pa_nil)))) (pss_cons ps_never (pss_one ps_never)) pss_nil)
        (pss_cons (ps_if (pt_val (pe_callB (r := rIsi K) call_isi rfl M.nI boot_isi (pa_cons (pv 1) (pa_cons (pe_bltn (v := .ty "int") rfl M.nInt boot_int' rfl) pa_nil))))
          (pss_one (ps_ret (pe_and (pe_callB (r := rIsi K) call_isi rfl M.nI boot_isi (pa_cons (pv 0) (pa_cons (pe_bltn (v := .ty "int") rfl M.nInt boot_int' rfl) pa_nil)))
            (pe_and (pe_cmpR op_eq (pe_callB (r := rIsi K) call_isi rfl M.nI boot_isi (pa_cons (pv 0) (pa_cons (pe_bltn (v := .ty "bool") rfl M.nB boot_bool' rfl) pa_nil))) (pe_callB (r := rIsi K) call_isi rfl M.nI boot_isi (pa_cons (pv 1) (pa_cons (pe_bltn (v := .ty "bool") rfl M.nB boot_bool' rfl) pa_nil))) (nomark _))
            (pe_one (pe_cmpR op_eq (pv 0) (pv 1) (nomark _))))))) pss_nil)
        (pss_one ps_never)), ?_⟩
      refine ⟨_, rfl, (by show 2 ≤ sizeLine; decide), fun t nt => ?_⟩
      have st := same_new (o := .tup [.ty "list", .ty "tuple"]) nt
      refine ⟨_, _, _, _, _, false, rfl, upd_same, .cons (.ty _) (.cons (.ty _) .nil), .base (.int k), kit_none2 (by decide +kernel) (by decide +kernel), _, rfl, iteF ?_⟩
      refine ⟨_, rfl, _, _, _, _, true, rfl, .ty _, .base (.int k), kit_ty (by decide +kernel), _, rfl, iteT ?_⟩
      refine ⟨_, rfl, _, _, _, _, true, rfl, .ty _, .base (.int k), kit_ty (by decide +kernel), _, rfl, iteT ?_⟩
      refine ⟨_, rfl, _, _, _, _, false, rfl, .ty _, .base (.int k), kit_ty (by decide +kernel), _, rfl, _, _, _, _, false, rfl, .ty _, .base (.int k), kit_ty (by decide +kernel), rfl, _, rfl, iteT ⟨_, rfl, _, rfl, rfl, ?_⟩⟩
      rw [decide_eq_true rfl]
      exact hq _ st
    | bl k =>
      refine ⟨_, pss_cons (ps_if (pt_val (pe_callB (r := rIsiT K) call_isiT rfl M.nI boot_isi (pa_cons (pv 1) (pa_cons (pe_tup (pa_cons (pe_bltn (v := .ty "list") rfl M.nL boot_list' rfl) (pa_cons (pe_bltn (v := .ty "tuple") rfl M.nT boot_tuple' rfl) pa_nil))) pa_nil)))) (pss_cons ps_never (pss_one ps_never)) pss_nil)
        (pss_cons (ps_if (pt_val (pe_callB (r := rIsi K) call_isi rfl M.nI boot_isi (pa_cons (pv 1) (pa_cons (pe_bltn (v := .ty "int") rfl M.nInt boot_int' rfl) pa_nil))))
          (pss_one (ps_ret (pe_and (pe_callB (r := rIsi K) call_isi rfl M.nI boot_isi (pa_cons (pv 0) (pa_cons (pe_bltn (v := .ty "int") rfl M.nInt boot_int' rfl) pa_nil)))
            (pe_and (pe_cmpR op_eq (pe_callB (r := rIsi K) call_isi rfl M.nI boot_isi (pa_cons (pv 0) (pa_cons (pe_bltn (v := .ty "bool") rfl M.nB boot_bool' rfl) pa_nil))) (pe_callB (r := rIsi K) call_isi rfl M.nI boot_isi (pa_cons (pv 1) (pa_cons (pe_bltn (v := .ty "bool") rfl M.nB boot_bool' rfl) pa_nil))) (nomark _))
            (pe_one (pe_cmpR op_eq (pv 0) (pv 1) (nomark _))))))) pss_nil)
        (pss_one ps_never)), ?_⟩
      refine ⟨_, rfl, (by show 2 ≤ sizeLine; decide), fun t nt => ?_⟩
      have st := same_new (o := .tup [.ty "list", .ty "tuple"]) nt
      refine ⟨_, _, _, _, _, false, rfl, upd_same, .cons (.ty _) (.cons (.ty _) .nil), .base (.bl k), kit_none2 (by decide +kernel) (by decide +kernel), _, rfl, iteF ?_⟩
      refine ⟨_, rfl, _, _, _, _, true, rfl, .ty _, .base (.bl k), kit_ty (by decide +kernel), _, rfl, iteT ?_⟩
      refine ⟨_, rfl, _, _, _, _, true, rfl, .ty _, .base (.bl k), kit_ty (by decide +kernel), _, rfl, iteT ?_⟩
      refine ⟨_, rfl, _, _, _, _, true, rfl, .ty _, .base (.bl k), kit_ty (by decide +kernel), _, rfl, _, _, _, _, true, rfl, .ty _, .base (.bl k), kit_ty (by decide +kernel), rfl, _, rfl, iteT ⟨_, rfl, _, rfl, rfl, ?_⟩⟩
      rw [decide_eq_true rfl]
      exact hq _ st
    | str x =>
      refine ⟨_, pss_cons (ps_if (pt_val (pe_callB (r := rIsiT K) call_isiT rfl M.nI boot_isi (pa_cons (pv 1) (pa_cons (pe_tup (pa_cons (pe_bltn (v := .ty "list") rfl M.nL boot_list' rfl) (pa_cons (pe_bltn (v := .ty "tuple") rfl M.nT boot_tuple' rfl) pa_nil))) pa_nil)))) (pss_cons ps_never (pss_one ps_never)) pss_nil)
        (pss_cons (ps_if (pt_val (pe_callB (r := rIsi K) call_isi rfl M.nI boot_isi (pa_cons (pv 1) (pa_cons (pe_bltn (v := .ty "int") rfl M.nInt boot_int' rfl) pa_nil)))) (pss_one ps_never) pss_nil)
        (pss_one (ps_ret (pe_and (pe_cmpR op_isBl (pe_callB (r := rIsiT K) call_isiT rfl M.nI boot_isi (pa_cons (pv 0) (pa_cons (pe_tup (pa_cons (pe_bltn (v := .ty "int") rfl M.nInt boot_int' rfl) (pa_cons (pe_bltn (v := .ty "list") rfl M.nL boot_list' rfl) (pa_cons (pe_bltn (v := .ty "tuple") rfl M.nT boot_tuple' rfl) pa_nil)))) pa_nil))) pe_bl (nomark _))
          (pe_one (pe_cmpR op_eq (pv 0) (pv 1) (nomark _))))))), ?_⟩
      refine ⟨_, rfl, (by show 2 ≤ sizeLine; decide), fun t nt => ?_⟩
      have st := same_new (o := .tup [.ty "list", .ty "tuple"]) nt
      refine ⟨_, _, _, _, _, false, rfl, upd_same, .cons (.ty _) (.cons (.ty _) .nil), .base (.str x), kit_none2 (by decide +kernel) (by decide +kernel), _, rfl, iteF ?_⟩
      refine ⟨_, rfl, _, _, _, _, false, rfl, .ty _, .base (.str x), kit_ty (by decide +kernel), _, rfl, iteF ?_⟩
      refine ⟨_, rfl, (by show 3 ≤ sizeLine; decide), fun t2 nt2 => ?_⟩
      have st2 := same_new (o := .tup [.ty "int", .ty "list", .ty "tuple"]) nt2
      refine ⟨_, _, _, _, _, false, rfl, upd_same, .cons (.ty _) (.cons (.ty _) (.cons (.ty _) .nil)), .base (.str x), kit_none3 (by decide +kernel) (by decide +kernel) (by decide +kernel), _, _, rfl, rfl, _, rfl, iteT ⟨_, rfl, _, rfl, rfl, ?_⟩⟩
      rw [decide_eq_true rfl]
      exact hq _ (st.trans st2)
  | n + 1 => by
    have G := ok_sameT F gSm M n
    have b := F.binds (ps := ["found", "due"]) fun _ _ _ _ _ _ us hl => match us, hl with | [_, _], _ => rfl
    refine L2.TB.fnOr (sp1 := fun vs H Q E => ∃ x y : V, vs = [x, y] ∧ Alk H n x y ∧ ∀ H', Same H H' → Q (.bl true) H') (sp2 := fun vs H Q _ => ∃ (a b : Addr) (xs ys : List V), vs = [.ref a, .ref b] ∧ H a = some (.lst xs) ∧ H b = some (.lst ys) ∧ xs.length = ys.length ∧ xs.length < 1000 ∧ (∀ (i : Nat) (x y : V), xs[i]? = some x → ys[i]? = some y → Alk H n x y) ∧ ∀ H', Same H H' → Q (.bl true) H') (G.mono (Nat.le_succ _)) ?_ fun vs H Q E h => ?_
    rotate_left
    · obtain ⟨x, y, rfl, al, hq⟩ := h
      cases al with
      | lst ha hb l sh al => exact .inr ⟨_, _, _, _, rfl, ha, hb, l, sh, al, hq⟩
      | up al => exact .inl ⟨_, _, rfl, al, hq⟩
    refine F.ok scSame (fun vs H Q E h => by obtain ⟨a, b, xs, ys, e, _⟩ := h; rw [e]; rfl) fun cdv A outer s H vs Q E hr hsp => ?_
    obtain ⟨a, bb, xs, ys, rfl, ha, hb, len, short, al, hq⟩ := hsp
    have nd := scSame.nd
    refine ⟨_, pss_cons (ps_if (pt_val (pe_callB (r := rIsiT K) call_isiT rfl M.nI boot_isi (pa_cons (pv 1) (pa_cons (pe_tup (pa_cons (pe_bltn (v := .ty "list") rfl M.nL boot_list' rfl) (pa_cons (pe_bltn (v := .ty "tuple") rfl M.nT boot_tuple' rfl) pa_nil))) pa_nil))))
        (pss_cons (ps_if (PW.pt (pw_or (pt_cmpR op_ne (pe_callB (r := rIsi K) call_isi rfl M.nI boot_isi (pa_cons (pv 0) (pa_cons (pe_bltn (v := .ty "list") rfl M.nL boot_list' rfl) pa_nil))) (pe_callB (r := rIsi K) call_isi rfl M.nI boot_isi (pa_cons (pv 1) (pa_cons (pe_bltn (v := .ty "list") rfl M.nL boot_list' rfl) pa_nil))) (nomark _))
            (pw_or1 (pt_cmpR op_ne (pe_callB (r := rIsi K) call_isi rfl M.nI boot_isi (pa_cons (pv 0) (pa_cons (pe_bltn (v := .ty "tuple") rfl M.nT boot_tuple' rfl) pa_nil))) (pe_callB (r := rIsi K) call_isi rfl M.nI boot_isi (pa_cons (pv 1) (pa_cons (pe_bltn (v := .ty "tuple") rfl M.nT boot_tuple' rfl) pa_nil))) (nomark _))))) (pss_one ps_never) pss_nil)
        (pss_one (ps_ret (pe_and (pe_cmpR op_eq (pe_callB call_len_seq rfl M.nN boot_len (pa_cons (pv 0) pa_nil)) (pe_callB call_len_seq rfl M.nN boot_len (pa_cons (pv 1) pa_nil)) (nomark _))
          (pe_one (pe_callB (cr_all rfl) rfl M.nA boot_all' (pa_cons (pe_lc (own := [("x", 2), ("y", 3)]) (tt := tYes) (g := gTup K 2 (gCons (gName 2) (gCons (gName 3) gNil))) rfl nd (pi_zip rfl M.nZ (pa_cons (pv 0) (pa_cons (pv 1) pa_nil))) (blkOk_by (N := NSm) (sc := defScope sSame) (by decide +kernel))
            (fun _ _ _ _ _ => pg_tup rfl (pgs_cons (pg_name (i := 2) nd rfl (Or.inl rfl)) (pgs_cons (pg_name (i := 3) nd rfl (Or.inl rfl)) pgs_nil))) (fun _ _ _ _ _ => pts_nil)
            (fun _ _ _ _ _ => pe_call G hr rfl gSm F.kp b .nil pass0 (pa_cons (pv 2) (pa_cons (pv 3) pa_nil)))) pa_nil))))))) pss_nil)
      (pss_cons ps_never (pss_one ps_never)), ?_⟩
    refine ⟨_, rfl, (by show 2 ≤ sizeLine; decide), fun t nt => ?_⟩
    have st := same_new (o := .tup [.ty "list", .ty "tuple"]) nt
    refine ⟨_, _, _, _, _, true, rfl, upd_same, .cons (.ty _) (.cons (.ty _) .nil), .base (.lst (st _ _ hb)), kit_two_l, _, rfl, iteT ?_⟩
    generalize upd H t (.tup [.ty "list", .ty "tuple"]) = H1 at st
    have ha := st _ _ ha
    have hb := st _ _ hb
    refine ⟨_, rfl, _, _, _, _, true, rfl, .ty _, .base (.lst ha), kit_ty (by decide +kernel), _, rfl, _, _, _, _, true, rfl, .ty _, .base (.lst hb), kit_ty (by decide +kernel), rfl, _, rfl, iteF ?_⟩
    refine ⟨_, rfl, _, _, _, _, false, rfl, .ty _, .base (.lst ha), kit_ty (by decide +kernel), _, rfl, _, _, _, _, false, rfl, .ty _, .base (.lst hb), kit_ty (by decide +kernel), rfl, _, rfl, iteF ?_⟩
    refine ⟨_, rfl, a, _, rfl, .inl (SqL.of ha), _, rfl, bb, _, rfl, .inl (SqL.of hb), rfl, _, rfl, ?_⟩
    rw [dec_int2, decide_eq_true (by omega : ((xs.length : Nat) : Int) = (ys.length : Nat))]
    refine iteT ⟨_, rfl, _, rfl, a, bb, _, _, rfl, SqL.of ha, SqL.of hb, ?_⟩
    refine lc_gen (bools xs.length) (by rw [bools_len]; omega) (fun i H' s lt => ?_) (fun H' s => ?_) ?_ ?_
    · rw [bools_len] at lt
      exact ⟨_, _, _, _, SqL.of (s _ _ ha), SqL.of (s _ _ hb), List.getElem?_eq_getElem (by omega), List.getElem?_eq_getElem (by omega)⟩
    · exact ⟨_, _, SqL.of (s _ _ ha), SqL.of (s _ _ hb), .inl (by rw [bools_len]; exact Nat.le_refl _)⟩
    · rintro i v y H2 H3 Cn Nn ey s2 ⟨T, u1, u2, rfl, nT, rfl, e1, e2⟩ yes
      obtain ⟨rfl, lt⟩ := bools_at ey
      have e1 := e1 _ (SqL.of (s2 _ _ ha))
      have e2 := e2 _ (SqL.of (s2 _ _ hb))
      have sT := same_new (o := .tup [u1, u2]) nT
      refine ⟨T, _, rfl, SqT.of upd_same, rfl, _, _, rfl, _, _, rfl, rfl, rfl, ?_⟩
      exact ⟨_, rfl, _, rfl, u1, u2, rfl, (al i u1 u2 e1 e2).same ((st.trans s2).trans sT), fun H4 s4 => yes H4 (sT.trans s4)⟩
    · intro H2 D nD oD s2
      rw [bools_map] at oD
      refine ⟨D, _, rfl, SqL.of oD, ?_⟩
      rw [all_true]
      exact hq _ (st.trans s2)
end
end L2.TB
namespace L2.TB
open PySem PySem.Spec PyProof.Rows
/-! hands: names and the lists of what they know -/
def hv (hn : List Str) (ps : List Addr) : List (Key × V) := (hn.zip ps).map fun p => (Sum.inr p.1, V.ref p.2)
theorem hv_len {hn : List Str} {ps : List Addr} (h : hn.length = ps.length) : (hv hn ps).length = hn.length := by
  unfold hv
  rw [List.length_map, List.length_zip]; omega
theorem hv_keys {hn : List Str} {ps : List Addr} (h : hn.length = ps.length) : (hv hn ps).map (·.1) = hn.map Sum.inr := by
  unfold hv
  rw [List.map_map]
  have e : ((fun x : Key × V => x.1) ∘ fun p : Str × Addr => ((Sum.inr p.1 : Key), V.ref p.2)) = (Sum.inr : Str → Key) ∘ Prod.fst := rfl
  rw [e, ← List.map_map, List.map_fst_zip (by omega)]
theorem valV_zip : ∀ {hn : List Str} {ps : List Addr} {i : Nat} {x : Str} {p : Addr}, hn.Nodup → hn[i]? = some x → ps[i]? = some p → valV (hv hn ps) (Sum.inr x) = some (.ref p)
  | [], _, i, x, p, _, h, _ => by simp at h
  | _ :: _, [], i, x, p, _, _, h => by simp at h
  | n :: hn, q :: ps, 0, x, p, nd, h1, h2 => by
    obtain rfl : n = x := by simpa using h1
    obtain rfl : q = p := by simpa using h2
    show valV ((Sum.inr n, V.ref q) :: hv hn ps) (Sum.inr n) = _
    unfold valV
    simp
  | n :: hn, q :: ps, i + 1, x, p, nd, h1, h2 => by
    rw [List.nodup_cons] at nd
    have h1 : hn[i]? = some x := by simpa using h1
    have h2 : ps[i]? = some p := by simpa using h2
    have z := valV_zip nd.2 h1 h2
    have ne : ¬ n = x := fun e => nd.1 (e ▸ List.mem_of_getElem? h1)
    show valV ((Sum.inr n, V.ref q) :: hv hn ps) (Sum.inr x) = _
    unfold valV at z ⊢
    rw [List.find?_cons]
    have : decide ((Sum.inr n : Key) = Sum.inr x) = false := decide_eq_false fun e => ne (Sum.inr.inj e)
    simp only [this] <;> exact z
theorem hv_at {hn : List Str} {ps : List Addr} {i : Nat} {k : Key} {v : V} (h : (hv hn ps)[i]? = some (k, v)) : ∃ x p, k = Sum.inr x ∧ v = .ref p ∧ hn[i]? = some x ∧ ps[i]? = some p := by
  unfold hv at h
  rw [List.getElem?_map] at h
  obtain ⟨⟨x, p⟩, e1, e2⟩ := Option.map_eq_some_iff.mp h
  obtain ⟨rfl, rfl⟩ := Prod.mk.inj e2
  obtain ⟨h1, h2⟩ := List.getElem?_zip_eq_some.mp e1
  exact ⟨x, p, rfl, rfl, h1, h2⟩
/-- what a hand knows -/
def hl (hn : List Str) (ls : List (List Str)) (x : Str) : List Str := ls.getD (idx hn x) []
structure Hs (K : PySem.W.Frag) (H : Hp) (d : Addr) (hn : List Str) (ps : List Addr) (ls : List (List Str)) : Prop where
  o : Rd H d (.dK (hv hn ps))
  f : Paired (fun p l => SqA K H p ((l : List Str).map V.str)) ps ls
  ln : hn.length = ps.length
  nd : hn.Nodup
theorem Hs.same {K : PySem.W.Frag} {H H' : Hp} {d : Addr} {hn : List Str} {ps : List Addr} {ls : List (List Str)} (h : Hs K H d hn ps ls) (s : Same H H') : Hs K H' d hn ps ls :=
  ⟨rd_same h.o s, Paired.mapP h.f fun p l e => e.same s, h.ln, h.nd⟩
/-- .. behind a lock of the dict itself -/
theorem Hs.lock {K : PySem.W.Frag} {H : Hp} {d : Addr} {od : Obj} {hn : List Str} {ps : List Addr} {ls : List (List Str)} (h : Hs K H d hn ps ls) (o : H d = some (.dK (hv hn ps))) : Hs K (upd H d (.frz od (.dK (hv hn ps)))) d hn ps ls :=
  ⟨.inr ⟨od, upd_same⟩, Paired.mapP h.f fun p l e => by
    have ne : p ≠ d := fun z => by rcases e with e | e <;> (rw [z, o] at e; cases e)
    exact e.imp (fun q => by rw [upd_ne ne]; exact q) (fun q => by rw [upd_ne ne]; exact q), h.ln, h.nd⟩
theorem idx_get {hn : List Str} {x : Str} (h : x ∈ hn) : hn[idx hn x]? = some x := by
  have z := (idx_at h).1
  rw [List.getElem?_map] at z
  obtain ⟨y, e1, e2⟩ := Option.map_eq_some_iff.mp z
  rw [e1, V.str.inj e2]
theorem Hs.get {K : PySem.W.Frag} {H : Hp} {d : Addr} {hn : List Str} {ps : List Addr} {ls : List (List Str)} (h : Hs K H d hn ps ls) {x : Str} (hx : x ∈ hn) : ∃ p, ps[idx hn x]? = some p ∧ ls[idx hn x]? = some (hl hn ls x) ∧ DGet H d (.str x) (some (.ref p)) ∧ SqA K H p ((hl hn ls x).map V.str) := by
  have lt : idx hn x < hn.length := List.idxOf_lt_length_iff.mpr hx
  have ll := Paired.length h.f
  have e1 : ps[idx hn x]? = some (ps[idx hn x]'(by rw [← h.ln]; exact lt)) := List.getElem?_eq_getElem _
  obtain ⟨l, e2, q⟩ := paired_get h.f e1
  have e3 : hl hn ls x = l := by
    unfold hl
    rw [List.getD_eq_getElem?_getD, e2]; rfl
  subst e3
  exact ⟨_, e1, e2, .inl ⟨_, Sum.inr x, h.o, rfl, (valV_zip h.nd (idx_get hx) e1).symm⟩, q⟩
theorem idx_at_nd {hn : List Str} (nd : hn.Nodup) {i : Nat} {x : Str} (h : hn[i]? = some x) : idx hn x = i := by
  obtain ⟨lt, e⟩ := List.getElem?_eq_some_iff.mp h
  rw [← e]
  unfold idx
  exact List.Nodup.idxOf_getElem nd i lt
/-- what hands have to be -/
structure HOk2 (ns hn : List Str) (ls : List (List Str)) : Prop where
  nok : ∀ x ∈ hn, NmOk x
  lnd : ∀ l ∈ ls, l.Nodup
  lsub : ∀ l ∈ ls, ∀ y ∈ l, y ∈ ns
  sh : ns.length < 1000
  few : hn.length ≤ 10
  pos : 0 < hn.length
theorem nodup_short {l ns : List Str} (nd : l.Nodup) (sub : ∀ y ∈ l, y ∈ ns) (sh : ns.length < 1000) : l.length < 1000 := by
  have := List.Nodup.length_le_of_subset nd (fun y hy => sub y hy)
  omega
def spCkH (K : PySem.W.Frag) : Sp := fun vs H Q _ => ∃ (c d : Addr) (ns hn : List Str) (ps : List Addr) (ls : List (List Str)), vs = [.ref c, .ref d] ∧ H c = some (.lst (ns.map V.str)) ∧ Hs K H d hn ps ls ∧ H d = some (.dK (hv hn ps)) ∧ HOk2 ns hn ls ∧
  ∀ H', Same H H' → Q .non H'
theorem scCkH : FnScope ["names", "hands", "name"] ["names", "hands"] (defScope sCkH) := ⟨rfl, rfl, rfl, by decide +kernel, rfl, by decide +kernel, by decide +kernel⟩
section
variable {P : Program} {w : World} {K : PySem.W.Frag} {mg : Str → Option Value} {base : Heap} {f fN aF aL aO aK aA aB : Addr} {fd fdN : FuncData}
theorem ok_ckH (F : Fun K "check_hands" "check_hands" sCkH f fd) (Ck : Chk K mg aF aL aO aK aA aB) (FN : Fun K "is_name" "is_name" sIsName fN fdN) (gN : mg "is_name" = some (.ref fN)) (GN : FnOk P w K mg base CX0 1 fN fdN ["thing"] spIsName)
    (nD : mg "dict" = none) (nL : mg "len" = none) : FnOk P w K mg base CX0 3 f fd ["names", "hands"] (spCkH K) := by
  obtain ⟨fdF, FF⟩ := Ck.F
  obtain ⟨fdL, FL⟩ := Ck.L
  obtain ⟨fdO, FO⟩ := Ck.O
  have GF : FnOk P w K mg base CX0 2 aF fdF ["names", "things"] (spFirst K) := ok_first FF FL Ck.gL FO Ck.gO Ck.nI Ck.nL Ck.nT Ck.nS Ck.nE
  have bF := FF.binds (ps := ["names", "things"]) fun _ _ _ _ _ _ us hl => match us, hl with | [_, _], _ => rfl
  have bN := FN.binds (ps := ["thing"]) fun _ _ _ _ _ _ us hl => match us, hl with | [_], _ => rfl
  refine F.ok scCkH (fun vs H Q E h => by obtain ⟨c, d, ns, hn, ps, ls, e, _⟩ := h; rw [e]; rfl) fun cdv A outer s H vs Q E hr hsp => ?_
  obtain ⟨c, d, ns, hn, ps, ls, rfl, hc, I, hd, ok, hq⟩ := hsp
  have nd := scCkH.nd
  have hu := hu_of hr
  refine ⟨_, pss_cons (ps_if (PW.pt (pw_or (pt_not (pt_val (pe_callB (r := rIsi K) call_isi rfl Ck.nI boot_isi (pa_cons (pv 1) (pa_cons (pe_bltn (v := .ty "dict") rfl nD boot_dict' rfl) pa_nil)))))
      (pw_or1 (pt_cmpR op_eq (pe_callB call_lenD rfl nL boot_len (pa_cons (pv 1) pa_nil)) pe_int (nomark _))))) (pss_one ps_never) pss_nil)
    (pss_one (ps_lock (ps_for PassesOwn.never rfl (pi_keys (pv 1)) (pg_name (i := 2) nd rfl (Or.inl rfl))
      (pss_one (ps_if (PW.pt (pw_or (pt_not (pt_val (pe_call GN (hr.mono (by decide)) rfl gN FN.kp bN .nil pass0 (pa_cons (pv 2) pa_nil))))
        (pw_or1 (pt_cmp (pc_notN (pe_call GF hr rfl Ck.gF FF.kp bF .nil pass0 (pa_cons (pv 0) (pa_cons (pe_dget hu (pv 1) (pv 2) (fun _ _ => rfl)) pa_nil)))))))) (pss_one ps_never) pss_nil))))), ?_⟩
  have lh := hv_len I.ln
  refine ⟨_, rfl, _, _, _, _, true, rfl, .ty _, .base (.dK hd), kit_ty (by decide +kernel), _, rfl, iteF ?_⟩
  refine ⟨_, rfl, d, _, rfl, hd, rfl, _, rfl, ?_⟩
  rw [dec_int2, lh, decide_eq_false (by have := ok.pos; omega : ¬ ((hn.length : Nat) : Int) = 0)]
  refine iteF ?_
  refine ⟨d, _, hd, trivial, fun od => ⟨_, rfl, d, od, rfl, .inl ⟨_, upd_same, for_it walk_keys (fun i σ H' => Same (upd H d (.frz od (.dK (hv hn ps)))) H' ∧ ∃ s2, σ = [some (.ref c), some (.ref d), s2]) ⟨Same.refl _, _, rfl⟩ (fun i σ H' _ h => h.1 _ _ upd_same) ?_ ?_⟩⟩⟩
  · rintro i x σ H2 _ lt ⟨s2, s2', rfl⟩ ⟨rfl, k, v, ek, rfl⟩
    obtain ⟨x, p, rfl, rfl, e1, e2⟩ := hv_at ek
    have xin : x ∈ hn := List.mem_of_getElem? e1
    have I2 := (I.lock (od := od) hd).same s2
    obtain ⟨p', q1, q2, dg, sq⟩ := I2.get xin
    have cd : c ≠ d := fun z => by rw [z, hd] at hc; cases hc
    refine ⟨_, rfl, x, rfl, ok.nok x xin, fun H3 s3 => ⟨_, rfl, iteF ?_⟩⟩
    have hl1 : hl hn ls x ∈ ls := List.mem_of_getElem? q2
    have s23 := s2.trans s3
    have I3 := I2.same s3
    obtain ⟨p3, w1, w2, dg3, sq3⟩ := I3.get xin
    refine ⟨_, rfl, _, rfl, _, rfl, d, _, rfl, dg3, ?_⟩
    refine ⟨c, p3, ns, hl hn ls x, rfl, s23 _ _ (by rw [upd_ne cd]; exact hc), sq3, ok.lnd _ hl1, ok.lsub _ hl1, nodup_short (ok.lnd _ hl1) (ok.lsub _ hl1) ok.sh, fun H4 s4 => ?_⟩
    refine ⟨_, rfl, iteF ⟨s23.trans s4, _, rfl⟩⟩
  · rintro σ H2 ⟨s2, s2', rfl⟩
    obtain ⟨b1, s02⟩ := lock_off hd s2
    exact ⟨b1, hq _ s02⟩
end
end L2.TB
namespace L2.TB
open PySem PySem.Spec PyProof.Rows
theorem seen_any {xs : List Str} {x : Str} : ((seenD xs).any fun kv => decide (kv.1 = Sum.inr x)) = decide (x ∈ xs) := by
  unfold seenD
  rw [List.any_map, Bool.eq_iff_iff, List.any_eq_true, decide_eq_true_eq]
  constructor
  · rintro ⟨y, hy, h⟩
    have h3 : (Sum.inr y : Key) = Sum.inr x := of_decide_eq_true h
    exact Sum.inr.inj h3 ▸ hy
  · intro h
    exact ⟨x, h, decide_eq_true rfl⟩
theorem seen_again {xs : List Str} {x : Str} (h : x ∈ xs) : putK (seenD xs) (Sum.inr x) (.bl true) = seenD xs := by
  unfold putK
  rw [seen_any, decide_eq_true h, if_pos rfl]
  unfold seenD
  rw [List.map_map]
  refine List.map_congr_left fun y _ => ?_
  show (if (Sum.inr y : Key) = Sum.inr x then ((Sum.inr y : Key), V.bl true) else (Sum.inr y, V.bl true)) = _
  split <;> rfl
def addS (us : List Str) (x : Str) : List Str := if x ∈ us then us else us ++ [x]
theorem seen_add (us : List Str) (x : Str) : putK (seenD us) (Sum.inr x) (.bl true) = seenD (addS us x) := by
  unfold addS
  by_cases h : x ∈ us
  · rw [if_pos h, seen_again h]
  · rw [if_neg h, seen_put h]
theorem add_nd {us : List Str} (x : Str) (h : us.Nodup) : (addS us x).Nodup := by
  unfold addS
  by_cases c : x ∈ us
  · rw [if_pos c]; exact h
  · rw [if_neg c]
    exact List.nodup_append.mpr ⟨h, by simp, fun a ha b hb e => c (by rw [← List.mem_singleton.mp hb, ← e]; exact ha)⟩
theorem add_mem {us : List Str} {x y : Str} : y ∈ addS us x ↔ y ∈ us ∨ y = x := by
  unfold addS
  by_cases c : x ∈ us
  · rw [if_pos c]
    exact ⟨.inl, fun h => h.elim id fun e => e ▸ c⟩
  · rw [if_neg c, List.mem_append, List.mem_singleton]
theorem seen_is {us : List Str} {x : Str} : (valV (seenD us) (Sum.inr x)).isSome = decide (x ∈ us) := by
  rw [← valV_any, seen_any]
/-- a promise that is not looked into -/
@[irreducible] def Sealed (sp : Sp) : Sp := sp
theorem sealed_eq {sp : Sp} : Sealed sp = sp := by unfold Sealed; rfl
theorem sealed_mk {sp : Sp} {vs : List V} {H : Hp} {Q : VK} {E : XK} (h : sp vs H Q E) : Sealed sp vs H Q E := by rw [sealed_eq]; exact h
theorem seal_ok {P : Program} {w : World} {K : PySem.W.Frag} {mg : Str → Option Value} {base : Heap} {k : Nat} {f : Addr} {fd : FuncData} {ps : List Str} {sp : Sp} (h : FnOk P w K mg base CX0 k f fd ps sp) : FnOk P w K mg base CX0 k f fd ps (Sealed sp) := by rw [sealed_eq]; exact h
/-- all but one thing stays -/
def ButD (d : Addr) (H H' : Hp) : Prop := ∀ b o, b ≠ d → H b = some o → H' b = some o
/-- what the hands of a group know -/
def joinG (ns hn : List Str) (ls : List (List Str)) (gs : List Str) : List Str := ns.filter fun y => gs.any fun h => decide (y ∈ hl hn ls h)
structure TgAt (K : PySem.W.Frag) (H : Hp) (C a d : Addr) (ns hn : List Str) (ps : List Addr) (ls : List (List Str)) (tbl : List (List Int)) : Prop where
  t : TabAt H C a ns tbl
  h : Hs K H d hn ps ls
  ok : HOk2 ns hn ls
  s2 : tbl.length < 1000
  ndn : ns.Nodup
theorem TgAt.same {K : PySem.W.Frag} {H H' : Hp} {C a d : Addr} {ns hn : List Str} {ps : List Addr} {ls : List (List Str)} {tbl : List (List Int)} (h : TgAt K H C a d ns hn ps ls tbl) (s : Same H H') : TgAt K H' C a d ns hn ps ls tbl := ⟨h.t.same s, h.h.same s, h.ok, h.s2, h.ndn⟩
def spTog (K : PySem.W.Frag) (C : Addr) : Sp := fun vs H Q _ => ∃ (a d g : Addr) (ns hn gs : List Str) (ps : List Addr) (ls : List (List Str)) (tbl : List (List Int)), vs = [.ref a, .ref d, .ref g] ∧ TgAt K H C a d ns hn ps ls tbl ∧ SqA K H g (gs.map V.str) ∧ (∀ x ∈ gs, x ∈ hn) ∧ gs.length < 1000 ∧
  ∀ H' q, H q = none → H' q = some (.lst ((joinG ns hn ls gs).map V.str)) → Same H H' → Q (.ref q) H'
abbrev NTo : List Str := ["field", "hands", "group", "known", "name", "question"]
theorem scTo : FnScope NTo ["field", "hands", "group"] (defScope sTogether) := ⟨rfl, rfl, rfl, by decide +kernel, rfl, by decide +kernel, by decide +kernel⟩
def spCkHA (K : PySem.W.Frag) (C : Addr) : Sp := fun vs H Q _ => ∃ (a d : Addr) (ns hn : List Str) (ps : List Addr) (ls : List (List Str)) (tbl : List (List Int)) (x : Str), vs = [.ref a, .ref d, .str x] ∧ TgAt K H C a d ns hn ps ls tbl ∧ H d = some (.dK (hv hn ps)) ∧ x ∈ ns ∧
  ∀ H', Same H H' → Q .non H'
theorem scCkHA : FnScope ["field", "hands", "asked"] ["field", "hands", "asked"] (defScope sCkHA) := ⟨rfl, rfl, rfl, by decide +kernel, rfl, by decide +kernel, by decide +kernel⟩
theorem ListA.hlsub {ns hn : List Str} {ls : List (List Str)} (ok : HOk2 ns hn ls) (h : Str) : ∀ y ∈ hl hn ls h, y ∈ ns := fun y hy => by
  unfold hl at hy
  rw [List.getD_eq_getElem?_getD] at hy
  cases e : ls[idx hn h]? with
  | none => rw [e] at hy; cases hy
  | some l => rw [e] at hy; exact ok.lsub l (List.mem_of_getElem? e) y hy
section
variable {P : Program} {w : World} {K : PySem.W.Frag} {mg : Str → Option Value} {base : Heap} {f fH C fQ fI fPl fPr aF aL aO aK aA aB : Addr} {fd fdH : FuncData}
theorem ok_ckHA (F : Fun K "_check_both" "_check_both" sCkHA f fd) (T : TabM K C fQ fI fPl fPr) (Ck : Chk K mg aF aL aO aK aA aB) (FH : Fun K "check_hands" "check_hands" sCkH fH fdH) (gH : mg "check_hands" = some (.ref fH)) (GH : FnOk P w K mg base CX0 3 fH fdH ["names", "hands"] (spCkH K)) :
    FnOk P w K mg base CX0 4 f fd ["field", "hands", "asked"] (spCkHA K C) := by
  obtain ⟨fdQ, FQ⟩ := T.Q
  have GQ := ok_qs (P := P) (w := w) (mg := mg) (base := base) FQ T.toTabC Ck.nL
  have bQ := FQ.binds (ps := ["self"]) fun _ _ _ _ _ _ us hl => match us, hl with | [_], _ => rfl
  obtain ⟨fdC, FC⟩ := Ck.CA
  have GC := ok_ckA (P := P) (w := w) (base := base) Ck FC
  have bC := FC.binds (ps := ["names", "asked"]) fun _ _ _ _ _ _ us hl => match us, hl with | [_, _], _ => rfl
  have bH := FH.binds (ps := ["names", "hands"]) fun _ _ _ _ _ _ us hl => match us, hl with | [_, _], _ => rfl
  refine F.ok scCkHA (fun vs H Q E h => by obtain ⟨a, d, ns, hn, ps, ls, tbl, x, e, _⟩ := h; rw [e]; rfl) fun cdv A outer s H vs Q E hr hsp => ?_
  obtain ⟨a, d, ns, hn, ps, ls, tbl, x, rfl, I, hd, xin, hq⟩ := hsp
  refine ⟨_, pss_cons (ps_expr (pe_call GH hr rfl gH FH.kp bH .nil pass0 (pa_cons (pe_meth0 (pv 0) T.cl T.mQ GQ (hr.mono (by decide)) bQ .nil pass0) (pa_cons (pv 1) pa_nil))))
    (pss_one (ps_expr (pe_call GC (hr.mono (by decide)) rfl Ck.gCA FC.kp bC .nil pass0 (pa_cons (pe_meth0 (pv 0) T.cl T.mQ GQ (hr.mono (by decide)) bQ .nil pass0) (pa_cons (pv 2) pa_nil))))), ?_⟩
  obtain ⟨dx, qa, ra, ha, hqa, hra⟩ := id I.t.ex
  refine ⟨_, rfl, a, dx, _, rfl, ha, rfl, a, ns, tbl, rfl, I.t, fun H1 q1 n1 o1 k1 => ?_⟩
  refine ⟨_, rfl, q1, d, ns, hn, ps, ls, rfl, o1, I.h.same k1, k1 _ _ hd, I.ok, fun H2 k2 => ?_⟩
  have k12 := k1.trans k2
  refine ⟨_, rfl, a, dx, _, rfl, k12 _ _ ha, rfl, a, ns, tbl, rfl, I.t.same k12, fun H3 q3 n3 o3 k3 => ?_⟩
  exact ⟨_, rfl, q3, ns, x, rfl, SqL.of o3, xin, hq _ (k12.trans k3)⟩
theorem ok_together (F : Fun K "_together" "_together" sTogether f fd) (T : TabM K C fQ fI fPl fPr) (nL : mg "list" = none) : FnOk P w K mg base CX0 2 f fd ["field", "hands", "group"] (spTog K C) := by
  obtain ⟨fdQ, FQ⟩ := T.Q
  have GQ := ok_qs (P := P) (w := w) (mg := mg) (base := base) FQ T.toTabC nL
  have bQ := FQ.binds (ps := ["self"]) fun _ _ _ _ _ _ us hl => match us, hl with | [_], _ => rfl
  refine F.ok scTo (fun vs H Q E h => by obtain ⟨a, d, g, ns, hn, gs, ps, ls, tbl, e, _⟩ := h; rw [e]; rfl) fun cdv A outer s H vs Q E hr hsp => ?_
  obtain ⟨a, d, g, ns, hn, gs, ps, ls, tbl, rfl, I, hg, gsub, gsh, hq⟩ := hsp
  have nd := scTo.nd
  have hu := hu_of hr
  refine ⟨_, pss_cons (ps_set (i := 3) nd rfl (Or.inr rfl) pe_dnewK)
    (pss_cons (ps_for PassesOwn.never rfl (pi_seq (pv 2)) (pg_name (i := 4) nd rfl (Or.inl rfl))
      (pss_one (ps_for PassesOwn.never rfl (pi_seq (pe_dget hu (pv 1) (pv 4) (fun _ _ => rfl))) (pg_name (i := 5) nd rfl (Or.inl rfl)) (pss_one (ps_dput hu (pv 3) (pv 5) pe_bl rfl)))))
    (pss_one (ps_ret (pe_lc (own := [("question", 5)]) (te := tVar 5) (g := gName 5) rfl nd (pi_seq (pe_meth0 (pv 0) T.cl T.mQ GQ hr bQ .nil pass0)) (blkOk_by (N := NTo) (sc := defScope sTogether) (by decide +kernel)) (fun _ _ _ _ _ => pg_name (i := 5) nd rfl (Or.inl rfl))
      (fun _ _ _ _ _ => pts_one (pt_cmp (pc_din hu (pv 5) (pv 3)))) (fun _ _ _ _ _ => pv 5))))), ?_⟩
  refine fun k nk => ?_
  have kk := same_new (o := .dK []) nk
  have ok0 : upd H k (.dK []) k = some (.dK (seenD [])) := upd_same
  generalize upd H k (.dK []) = H1 at kk ok0
  have I1 := I.same kk
  have hg1 := hg.same kk
  have nfree : ∀ b o, H b = some o → b ≠ k := fun b o e z => by rw [z, nk] at e; cases e
  have pd : ∀ {p : Addr} {xs : List V}, SqA K H1 p xs → p ≠ k := fun h z => by rcases h with h | h <;> (rw [z, ok0] at h; cases h)
  have sqk : ∀ {H' : Hp} {p : Addr} {xs : List V}, ButD k H1 H' → SqA K H1 p xs → SqA K H' p xs := fun s h => h.imp (s _ _ (pd h)) (s _ _ (pd h))
  have dk : d ≠ k := fun z => by rcases I.h.o with h | ⟨o, h⟩ <;> (rw [z, nk] at h; cases h)
  have hsk : ∀ {H' : Hp}, ButD k H1 H' → Hs K H' d hn ps ls := fun s => ⟨I1.h.o.imp (s _ _ dk) (fun ⟨o, e⟩ => ⟨o, s _ _ dk e⟩), Paired.mapP I1.h.f fun p l e => sqk s e, I1.h.ln, I1.h.nd⟩
  obtain ⟨og, eg, kg⟩ := hg1.ho
  refine ⟨_, rfl, for_seq kg (fun i σ H' => ∃ us : List Str, H' k = some (.dK (seenD us)) ∧ us.Nodup ∧ (∀ y, y ∈ us ↔ ∃ h ∈ gs.take i, y ∈ hl hn ls h) ∧ ButD k H1 H' ∧ ∃ s4 s5, σ = [some (.ref a), some (.ref d), some (.ref g), some (.ref k), s4, s5])
    ?_ ?_ ?_ ?_⟩
  · exact ⟨[], ok0, .nil, (fun y => ⟨(fun h => by cases h), (fun ⟨l, h, _⟩ => by simp at h)⟩), (fun b o _ e => e), _, _, rfl⟩
  · intro i σ H' _ h
    obtain ⟨_, _, _, _, s, _⟩ := h
    exact s _ _ (pd hg1) eg
  · rintro i v σ H4 ev ⟨us, ous, und, umem, s4, t4, t5, rfl⟩
    rw [List.getElem?_map] at ev
    obtain ⟨x, ex, rfl⟩ := Option.map_eq_some_iff.mp ev
    have xin := gsub x (List.mem_of_getElem? ex)
    obtain ⟨p, w1, w2, dg, sq⟩ := (hsk s4).get xin
    obtain ⟨p1, v1, v2, _, sq1⟩ := I1.h.get xin
    obtain rfl : p1 = p := Option.some.inj (v1.symm.trans w1)
    obtain ⟨op, ep, kp⟩ := sq1.ho
    have etk : gs.take (i + 1) = gs.take i ++ [x] := by rw [List.take_succ, ex]; rfl
    refine ⟨_, rfl, _, rfl, d, _, rfl, dg, for_seq kp (fun j σ H' => ∃ us : List Str, H' k = some (.dK (seenD us)) ∧ us.Nodup ∧ (∀ y, y ∈ us ↔ (∃ h ∈ gs.take i, y ∈ hl hn ls h) ∨ y ∈ (hl hn ls x).take j) ∧ ButD k H1 H' ∧ ∃ s5, σ = [some (.ref a), some (.ref d), some (.ref g), some (.ref k), some (.str x), s5])
      ?_ ?_ ?_ ?_⟩
    · exact ⟨us, ous, und, (fun y => by rw [umem y, List.take_zero]; simp), s4, _, rfl⟩
    · intro j σ H' _ h
      obtain ⟨_, _, _, _, s, _⟩ := h
      exact s _ _ (pd sq1) ep
    · rintro j v σ H5 ev ⟨us, ous, und, umem, s5, t6, rfl⟩
      rw [List.getElem?_map] at ev
      obtain ⟨y, ey, rfl⟩ := Option.map_eq_some_iff.mp ev
      have etj : (hl hn ls x).take (j + 1) = (hl hn ls x).take j ++ [y] := by rw [List.take_succ, ey]; rfl
      have sub : ∀ z ∈ us, z ∈ ns := fun z hz => by
        rcases (umem z).mp hz with ⟨h2, h1, h3⟩ | h
        · exact ListA.hlsub I.ok h2 z h3
        · exact ListA.hlsub I.ok x z (List.mem_of_mem_take h)
      have small : (seenD us).length < sizeLine := by
        have := List.Nodup.length_le_of_subset und (fun z hz => sub z hz)
        have := I.ok.sh
        rw [sizeLine_eq]
        unfold seenD
        rw [List.length_map]
        omega
      refine ⟨_, rfl, _, rfl, k, _, rfl, DPut.k (k := Sum.inr y) ous small, addS us y, ?_, add_nd y und, fun z => ?_, ?_, _, rfl⟩
      · rw [upd_same, seen_add]
      · rw [add_mem, umem z, etj, List.mem_append, List.mem_singleton]
        exact or_assoc
      · intro b u nb e
        rw [upd_ne nb]
        exact s5 b u nb e
    · rintro σ H5 ⟨us, ous, und, umem, s5, t6, rfl⟩
      refine ⟨us, ous, und, fun y => ?_, s5, _, _, rfl⟩
      have el2 : (hl hn ls x).take ((hl hn ls x).map V.str).length = hl hn ls x := List.take_of_length_le (by rw [List.length_map]; exact Nat.le_refl _)
      rw [umem y, etk, el2]
      constructor
      · rintro (⟨l2, h1, h2⟩ | h)
        · exact ⟨l2, List.mem_append_left _ h1, h2⟩
        · exact ⟨x, by simp, h⟩
      · rintro ⟨l2, h1, h2⟩
        rcases List.mem_append.mp h1 with h | h
        · exact .inl ⟨l2, h, h2⟩
        · rw [List.mem_singleton.mp h] at h2; exact .inr h2
  · rintro σ H4 ⟨us, ous, und, umem, s4, t4, t5, rfl⟩
    have lgs : gs.take (gs.map V.str).length = gs := List.take_of_length_le (by rw [List.length_map]; exact Nat.le_refl _)
    rw [lgs] at umem
    obtain ⟨dx, qa, ra, ha, hqa, hra⟩ := id I1.t.ex
    have ins : ∀ {b : Addr} {o : HO}, H1 b = some o → (∀ l, o ≠ .dK l) → H4 b = some o := fun e n => s4 _ _ (fun z => by rw [z, ok0] at e; exact n _ (Option.some.inj e).symm) e
    have ha4 := ins ha (fun _ z => by cases z)
    have t4 : TabAt H4 C a ns tbl := by
      obtain ⟨qs, e1, e2⟩ := hra
      exact ⟨dx, qa, ra, ha4, ins hqa (fun _ z => by cases z), qs, ins e1 (fun _ z => by cases z), Paired.mapP e2 fun p l e => ⟨ins e.1 (fun _ z => by cases z), e.2⟩⟩
    refine ⟨_, rfl, a, dx, _, rfl, ha4, rfl, a, ns, tbl, rfl, t4, fun H5 q5 n5 o5 k5 => ?_⟩
    refine lc_seq (.inl rfl) o5 (by have := I.ok.sh; rw [List.length_map]; omega) (isStr fun y => decide (y ∈ us)) id ?_ ?_
    · rintro i v H6 Cn Nn ev s6 yes no
      rw [List.getElem?_map] at ev
      obtain ⟨y, ey, rfl⟩ := Option.map_eq_some_iff.mp ev
      refine ⟨rfl, ?_⟩
      refine ⟨_, rfl, _, rfl, k, _, rfl, DGet.k (k := Sum.inr y) (s6 _ _ (k5 _ _ ous)), ?_⟩
      have e0 : (valV (seenD us) (Sum.inr y)).isSome = decide (y ∈ us) := seen_is
      rw [e0]
      cases c : decide (y ∈ us) with
      | true => exact ⟨_, rfl, _, rfl, yes c H6 (Same.refl _)⟩
      | false => exact ⟨_, rfl, no c H6 (Same.refl _)⟩
    · intro H6 D nD oD s6
      rw [filter_strs] at oD
      have g4 : Same H H4 := fun b o e => s4 b o (nfree b o e) (kk b o e)
      have nD4 : H4 D = none := k5.free nD
      have nHD : H D = none := g4.free nD4
      refine hq H6 D nHD (by
        rw [oD]
        unfold joinG
        congr 3
        refine List.filter_congr fun y hy => ?_
        rw [Bool.eq_iff_iff, decide_eq_true_eq, umem y, List.any_eq_true]
        constructor
        · rintro ⟨l, h1, h2⟩; exact ⟨l, h1, decide_eq_true h2⟩
        · rintro ⟨l, h1, h2⟩; exact ⟨l, h1, of_decide_eq_true h2⟩) ((g4.trans k5).trans s6)
end
end L2.TB
namespace HF
open PySem PySem.Spec PyProof.Rows L2 LamX NdefX
/-! ### a def that makes a def and tells it back -/
section
variable {P : Program} {w : World} {K : PySem.W.Frag} {mg : Str → Option Value} {base : Heap} {x qual name : Str} {sF st : Stmt} {f c Pt : Addr} {fd : FuncData} {N ps fr : List Str} {js : List Nat} {T : List NTab} {nm : Nat → Nat → Str} {pos p1 p2 : Pos} {i k : Nat} {sp : Sp}
theorem fn_toldP {s0 : Stmt} (F : Fun K x qual sF f fd) (hc : fd.code = .ref c) (S : FnScope N ps (defScope sF)) (len : ∀ vs H Q E, sp vs H Q E → vs.length = ps.length) (hbd : defBody sF = [s0, st, .Return (some (.Name name p1)) p2])
    (hst : st = .FunctionDef name (C8.fnArgs st) (C8.fnBody st) [] none [] (C8.fnScope st) none name pos) (TB : TabB base mg c Pt) (hm : (Pt, nm) ∈ T) (hn : nm pos.line pos.col = qual ++ ".<locals>." ++ name) (hu : ∀ p ∈ T, p.1 = Pt → p.2 = nm)
    (hD : ndefB (defScope sF) (C8.fnScope st) fr = true) (hd0 : (C8.fnArgs st).defaults = []) (hk0 : (C8.fnArgs st).kw_defaults = []) (han : ∀ env, annTrees (C8.fnArgs st) none env = [])
    (hi : N[i]? = some name) (hx : Loc (defScope sF) name) (hd : (name == ("__debug__" : Str)) = false) (hcdd : (name == ("__classdict__" : Str)) = false) (hfr : ∀ cells, (cloFrom cells (C8.fnScope st).names []).map (·.1) = fr) (nd : fr.Nodup) (hjs : js.map (fun j => N[j]?) = fr.map some)
    (hlen : i < N.length)
    (hsp : ∀ (A : Around) (outer : List Env) (s : Shared) (H : Hp) (vs : List V) (Q : VK) (E : XK), Room k (A.deeper (envOfC qual (defScope sF) s.heap.objs.size f (.ref c))) → sp vs H Q E → ∃ t0, PS (cxOf CX0 P w K mg base N qual (defScope sF) f (.ref c) A outer s H E) s0 t0 ∧
      t0 { nx := (fun σ1 H1 => TabsN T H1 ∧ Grow H H1 ∧ σ1.length = N.length ∧ ∃ ws : List V, (∀ f' : Addr, js.map (slotAt (σ1.set i (some (.ref f')))) = ws.map some) ∧ ∀ (cl : List (Str × Addr)) (c' f' : Addr) (H' : Hp), Grow H1 H' → TabsN T H' → H1 f' = none →
        H' f' = some (FnO f' (NF.of st name (qual ++ ".<locals>." ++ name) cl c')) → H' c' = some (CodeO c' (qual ++ ".<locals>." ++ name)) → Held cl fr ws H' → Q (.ref f') H'), rt := fun _ _ => False } (L2.start N vs) H) :
    FnOk P w K mg base CX0 (k + 1) f fd ps sp := by
  obtain ⟨oc, od, kV, doc, pm, an, cdv, ct, osl, rfl, lk, hcd⟩ := F.ex
  have hc : cdv = .ref c := hc
  refine ⟨len, fun A outer s H args us vs Q E hr e0 hb r hs => ?_⟩
  have hl := len _ _ _ _ hs
  have KX : K.In s.heap := e0.mod.kin.keeps fun b o e => (e0.bs b o e).1
  have lim : s.heap.NoLimit := e0.mod.nolimit.keeps fun b o e => (e0.bs b o e).1
  refine codeAny_call_function hr.depth (KX _ _ lk) rfl S.co S.gen rfl (PySem.W.codeRec_of KX hcd) (hb _ _ _ _ ?_)
  refine wpAny_newFunctionEnv_cells S.kind (fun y hy => ?_) fun env he s1 xx => ?_
  · rcases S.par y.1 (List.of_mem_zip hy).1 with q | q
    · exact .inl q
    · exact .inr ⟨q, PySem.W.cellsFrom_some _ _ _ (.inl q)⟩
  subst he
  refine ⟨lim.keeps xx.toInCall.keep, codeAny_func ?_⟩
  have I : L2.Inv (cxOf CX0 P w K mg base N qual (defScope sF) f cdv A outer s H E) [] (L2.start N vs) H s1 := inv_start S hr.hd e0 hl r xx
  rw [hbd]
  have hc2 : cdv = .ref c := hc
  subst hc2
  obtain ⟨t0, pre, rd⟩ := hsp A outer s H vs Q E (hr.deeper _) hs
  refine wpAny_execs_cons (wpAny_mono (pre.run [] s1 (L2.start N vs) H _ I rd) (fun fl s2 q => ?_) fun e s' h => h)
  cases fl with
  | ret u => obtain ⟨_, _, _, _, _, z⟩ := q; exact False.elim z
  | brk => obtain ⟨_, _, _, z⟩ := q; exact False.elim z
  | cont => obtain ⟨_, _, _, z⟩ := q; exact False.elim z
  | next =>
  obtain ⟨σ1, H1, I1, hT, g1, sl, ws, hws, hq⟩ := q
  have mk := ps_ndefMS (X := cxOf CX0 P w K mg base N qual (defScope sF) f (.ref c) A outer s H E) (T := T) (nm := nm) (c := c) (P := Pt) (i := i) hst TB hc hm hn hu (ndef_free hD) hd0 hk0 (han _) S.nd hi hx (.inl rfl)
  refine wpAny_execs_cons (wpAny_mono (mk.run [] s2 σ1 H1 { nx := fun σ' H' => ∃ f' c', σ' = σ1.set i (some (.ref f')) ∧ Grow H1 H' ∧ TabsN T H' ∧ H1 f' = none ∧ H' f' = some (FnO f' (NF.of st name (qual ++ ".<locals>." ++ name) (cloFrom (cellsFrom (s.heap.objs.size + 1) (defScope sF).names []) (C8.fnScope st).names []) c')) ∧ H' c' = some (CodeO c' (qual ++ ".<locals>." ++ name)), rt := fun _ _ => False } I1
      ⟨hT, fun f' c' H1 eN nn T1 n f1 c1 => ⟨f', c', rfl, ⟨eN, nn⟩, T1, n, f1, c1⟩⟩) (fun fl s2 q => ?_) fun e s' h => h)
  cases fl with
  | next =>
    obtain ⟨σ', H', I2, f', c', rfl, eN, T1, nf, f1, c1⟩ := q
    have slot : (σ1.set i (some (V.ref f')))[i]? = some (some (V.ref f')) := by
      have := (List.getElem?_eq_some_iff.mp hi).1
      rw [List.getElem?_set_self (by omega)]
    refine wpAny_execs_cons (wpAny_Return_some (wpAny_mono ((pe_var (pos := p1) hi (hx.elim .inl fun z => .inr (.inl z)) hd hcdd).run [] s2 _ H' (fun v H2 => v = .ref f' ∧ H2 = H') I2 ⟨.ref f', slot, rfl, rfl⟩) (fun u s3 q => ?_) fun e s' h => h))
    obtain ⟨v, H3, I3, r3, ev, eH⟩ := q
    subst ev
    subst eH
    have C := cells_of I3 (Caps.made (fr := fr) (js := js) I3.ok (ndef_free hD) (ndef_fr hD) hjs)
    rw [hws f'] at C
    obtain ⟨held, ok, keep, out⟩ := lay_held (hfr _) nd C I3.hok
    refine ⟨.ref f', lay _ ws H3, I3.os, I3.bare, ?_, ok, r3, hq _ c' f' _ (eN.trans (.of keep)) (T1.ext keep) nf (keep _ _ f1) (keep _ _ c1) held⟩
    have B := I3.base
    refine ⟨B.keep, B.slot, fun b o e n hx => ?_, B.there, fun b ys e => keep _ _ (B.tups b ys e), fun b o u e => keep _ _ (B.frzs b o u e), fun b pp e => ?_⟩
    · rw [out b fun z => ?_]
      · exact B.free b o e n hx
      · obtain ⟨⟨y, b2⟩, hy, e2⟩ := List.mem_map.mp z
        have e2 : b2 = b := e2
        subst e2
        obtain ⟨j, hj⟩ := List.mem_iff_getElem?.mp hy
        have l2 := look_at (by rw [hfr]; exact nd) hj
        have ab := I3.ok.cab y b2 rfl (clo_cm (fun y hy e => (ndef_free hD y hy e).elim (fun z => I3.ok.has _ (.inl z)) fun z => I3.ok.has _ (.inr z)) l2)
        exact absurd (Nat.lt_of_lt_of_le (Heap.lt_size e) ab) (Nat.lt_irrefl _)
    · obtain ⟨more, z⟩ := B.tbls b pp e
      exact ⟨more, keep _ _ z⟩
  | ret u => obtain ⟨_, _, _, _, _, z⟩ := q; exact False.elim z
  | brk => obtain ⟨_, _, _, z⟩ := q; exact False.elim z
  | cont => obtain ⟨_, _, _, z⟩ := q; exact False.elim z
end
end HF
namespace L2.TB
open PySem PySem.Spec PyProof.Rows
open HF NdefX LamX
/-! the teller of groups of hands -/
abbrev knowT (ns hn : List Str) (ls : List (List Str)) (tbl : List (List Int)) (x : Str) : List Str → Prop := fun g => Tells ns tbl (joinG ns hn ls g) x
theorem join_mono {ns hn : List Str} {ls : List (List Str)} {g g' : List Str} (h : ∀ y ∈ g, y ∈ g') : ∀ y ∈ joinG ns hn ls g, y ∈ joinG ns hn ls g' := fun y hy => by
  obtain ⟨h1, h2⟩ := List.mem_filter.mp hy
  obtain ⟨z, hz, e⟩ := List.any_eq_true.mp h2
  exact List.mem_filter.mpr ⟨h1, List.any_eq_true.mpr ⟨z, h z hz, e⟩⟩
theorem know_mono {ns hn : List Str} {ls : List (List Str)} {tbl : List (List Int)} {x : Str} (a b : List Str) (h : ∀ y ∈ a, y ∈ b) (t : knowT ns hn ls tbl x a) : knowT ns hn ls tbl x b := tells_mono (join_mono h) t
theorem join_nd {ns hn : List Str} {ls : List (List Str)} {g : List Str} (nd : ns.Nodup) : (joinG ns hn ls g).Nodup := nd.filter _
theorem join_sub {ns hn : List Str} {ls : List (List Str)} {g : List Str} : ∀ y ∈ joinG ns hn ls g, y ∈ ns := fun y hy => (List.mem_filter.mp hy).1
structure OwnH (K : PySem.W.Frag) (H : Hp) (C a d n : Addr) (ns hn : List Str) (ps : List Addr) (ls : List (List Str)) (tbl : List (List Int)) (x : Str) : Prop where
  I : TgAt K H C a d ns hn ps ls tbl
  o : H n = some (.lst (hn.map V.str))
  xin : x ∈ ns
theorem Hs.ext {K : PySem.W.Frag} {H H' : Hp} {d : Addr} {hn : List Str} {ps : List Addr} {ls : List (List Str)} (h : Hs K H d hn ps ls) (s : ExtN H H') : Hs K H' d hn ps ls :=
  ⟨h.o.imp (fun e => s _ _ e (fun _ z => by cases z)) fun ⟨o, e⟩ => ⟨o, s _ _ e (fun _ z => by cases z)⟩, Paired.mapP h.f fun p l e => e.imp (fun e => s _ _ e (fun _ z => by cases z)) (fun e => s _ _ e (fun _ z => by cases z)), h.ln, h.nd⟩
theorem TgAt.ext {K : PySem.W.Frag} {H H' : Hp} {C a d : Addr} {ns hn : List Str} {ps : List Addr} {ls : List (List Str)} {tbl : List (List Int)} (h : TgAt K H C a d ns hn ps ls tbl) (s : ExtN H H') : TgAt K H' C a d ns hn ps ls tbl := ⟨h.t.ext s, h.h.ext s, h.ok, h.s2, h.ndn⟩
theorem OwnH.ext {K : PySem.W.Frag} {H H' : Hp} {C a d n : Addr} {ns hn : List Str} {ps : List Addr} {ls : List (List Str)} {tbl : List (List Int)} {x : Str} (h : OwnH K H C a d n ns hn ps ls tbl x) (s : ExtN H H') : OwnH K H' C a d n ns hn ps ls tbl x :=
  ⟨h.I.ext s, s _ _ h.o (fun _ z => by cases z), h.xin⟩
abbrev sTl : Stmt := (defBody sTeller).getD 1 (.Pass ⟨0, 0, 0, 0⟩)
abbrev qTl : Str := ("_teller" : Str) ++ ".<locals>." ++ "tells"
abbrev NTls : List Str := ["places", "names", "hands", "field", "asked", "place"]
theorem scTl : NScope NTls ["places"] ["names", "hands", "field", "asked"] (C8.fnScope sTl) := nscope_by (by decide +kernel)
def spTl (K : PySem.W.Frag) (C : Addr) (ws : List (Option V)) : Sp := fun vs H Q _ => ∃ (a d n b : Addr) (ns hn : List Str) (ps : List Addr) (ls : List (List Str)) (tbl : List (List Int)) (x : Str) (gs : List Nat), ws = [some (.ref n), some (.ref d), some (.ref a), some (.str x)] ∧ vs = [.ref b] ∧ OwnH K H C a d n ns hn ps ls tbl x ∧
  H b = some (.lst (placesV gs)) ∧ (∀ q ∈ gs, q < hn.length) ∧ gs.Nodup ∧ ∀ H', Same H H' → Q (.bl (tellG (knowT ns hn ls tbl x) hn gs)) H'
theorem atP_in {own : List Str} {gs : List Nat} (lt : ∀ p ∈ gs, p < own.length) : ∀ y ∈ atP own gs, y ∈ own := atP_sub lt
section
variable {P : Program} {w : World} {K : PySem.W.Frag} {mg : Str → Option Value} {base : Heap} {f C fQ fI fPl fPr aF aL aO aK aA aB fTo : Addr} {fd fdTo : FuncData}
theorem ok_tl (T : TabM K C fQ fI fPl fPr) (Ck : Chk K mg aF aL aO aK aA aB) (FTo : Fun K "_together" "_together" sTogether fTo fdTo) (gTo : mg "_together" = some (.ref fTo)) (cl : List (Str × Addr)) (c' : Addr) :
    NOk P w K mg base CX0 6 f (NF.of sTl "tells" qTl cl c') ["places"] ["names", "hands", "field", "asked"] (spTl K C) := by
  obtain ⟨fdI, FI⟩ := T.I
  have GI := ok_isTold (P := P) (w := w) (mg := mg) (base := base) FI T Ck
  have bI := FI.binds (ps := ["self", "known", "asked"]) fun _ _ _ _ _ _ us hl => match us, hl with | [_, _, _], _ => rfl
  have GT := ok_together (P := P) (w := w) (mg := mg) (base := base) FTo T Ck.nL
  have bT := FTo.binds (ps := ["field", "hands", "group"]) fun _ _ _ _ _ _ us hl => match us, hl with | [_, _, _], _ => rfl
  refine nok_of (N := NTls) scTl (fun _ _ _ us hl => match us, hl with | [_], _ => rfl) (fun ws vs H Q E h => by obtain ⟨_, _, _, b, _, _, _, _, _, _, _, _, e, _⟩ := h; rw [e]; rfl) fun A outer s H vs ws Q E hr hf hc hlen hsp => ?_
  obtain ⟨a, d, n, b, ns, hn, ps, ls, tbl, x, gs, rfl, rfl, O, hd, lt, pnd, hq⟩ := hsp
  have nd := scTl.nd
  refine ⟨_, pss_one (ps_ret (pe_meth (pv 3) T.cl T.mI GI hr bI .nil pass0 (pa_cons (pe_call GT (hr.mono (by decide)) rfl gTo FTo.kp bT .nil pass0 (pa_cons (pv 3) (pa_cons (pv 2) (pa_cons
    (pe_lc (own := [("place", 5)]) (tt := tYes) (g := gName 5) rfl nd (pi_seq (pv 0)) (blkOk_by (N := NTls) (sc := C8.fnScope sTl) (by decide +kernel)) (fun _ _ _ _ _ => pg_name (i := 5) nd rfl (Or.inl rfl)) (fun _ _ _ _ _ => pts_nil) (fun _ _ _ _ _ => pe_ix (r := rIxL K) ix_list (pv 1) (pv 5) (fun _ _ => rfl))) pa_nil)))) (pa_cons (pv 4) pa_nil)))), ?_⟩
  obtain ⟨dx, qa, ra, ha, _, _⟩ := id O.I.t.ex
  have gsh : gs.length ≤ hn.length := places_short pnd lt
  have few := O.I.ok.few
  refine ⟨_, rfl, a, dx, _, rfl, ha, rfl, ?_⟩
  refine ⟨_, rfl, _, rfl, _, rfl, lc_seq (.inl rfl) hd (by unfold placesV; rw [List.length_map]; omega) (fun _ => true) (fun v => match v with | .int i => .str (hn.getD i.toNat (Str.ofString "")) | v => v) ?_ ?_⟩
  · rintro i v H3 Cn Nn ev s3 yes no
    unfold placesV at ev
    rw [List.getElem?_map] at ev
    obtain ⟨p, ep, rfl⟩ := Option.map_eq_some_iff.mp ev
    have lp := lt p (List.mem_of_getElem? ep)
    refine ⟨rfl, ?_⟩
    refine ⟨_, rfl, _, rfl, n, _, _, _, rfl, rfl, SqL.of (s3 _ _ O.o), atI_nat (by rw [List.getElem?_map, List.getElem?_eq_getElem lp]; rfl), ?_⟩
    have e : hn.getD p (Str.ofString "") = hn[p] := by rw [List.getD_eq_getElem?_getD, List.getElem?_eq_getElem lp]; rfl
    have z := yes rfl H3 (Same.refl _)
    simp only [Int.toNat_natCast] at z
    rw [e] at z
    exact z
  · intro H1 q n1 o1 k1
    have e : ((placesV gs).filter fun _ => true).map (fun v => match v with | .int i => V.str (hn.getD i.toNat (Str.ofString "")) | v => v) = (atP hn gs).map V.str := by
      unfold placesV atP
      rw [List.filter_eq_self.mpr (fun _ _ => rfl), List.map_map, List.map_map]
      rfl
    rw [e] at o1
    refine ⟨a, d, q, ns, hn, atP hn gs, ps, ls, tbl, rfl, O.I.same k1, .inl o1, atP_in lt, by unfold atP; rw [List.length_map]; omega, fun H2 q2 n2 o2 k2 => ?_⟩
    have k12 := k1.trans k2
    refine ⟨_, rfl, a, q2, ns, joinG ns hn ls (atP hn gs), x, tbl, rfl, ⟨O.I.t.same k12, .inl o2, join_nd O.I.ndn, join_sub, O.I.ok.sh, O.I.s2, O.I.ndn⟩, O.xin, fun H3 k3 => hq H3 (k12.trans k3)⟩
theorem OwnH.offC {cl : List (Str × Addr)} {fr : List Str} {ws : List V} {H : Hp} {C a d n : Addr} {ns hn : List Str} {ps : List Addr} {ls : List (List Str)} {tbl : List (List Int)} {x : Str} (O : OwnH K H C a d n ns hn ps ls tbl x) (h : Held cl fr ws H) : OwnH K (HF.off cl H) C a d n ns hn ps ls tbl x := by
  have nl : ∀ {b : Addr} {ys : List V}, ∀ v, HO.lst ys ≠ CellO b v := fun v z => by unfold CellO at z; cases z
  obtain ⟨dx, qa, ra, h1, h2, qs, h3, h4⟩ := O.I.t.ex
  refine ⟨⟨⟨dx, qa, ra, same_off h h1 (fun v z => by unfold CellO at z; cases z), same_off h h2 nl, qs, same_off h h3 nl, Paired.mapP h4 fun p vs q => ⟨same_off h q.1 (fun v z => by unfold CellO at z; cases z), q.2⟩⟩, ⟨?_, ?_, O.I.h.ln, O.I.h.nd⟩, O.I.ok, O.I.s2, O.I.ndn⟩, same_off h O.o nl, O.xin⟩
  · exact O.I.h.o.imp (fun e => same_off h e (fun v z => by unfold CellO at z; cases z)) fun ⟨o, e⟩ => ⟨o, same_off h e (fun v z => by unfold CellO at z; cases z)⟩
  · exact Paired.mapP O.I.h.f fun p l e => e.imp (fun e => same_off h e nl) (fun e => same_off h e (fun v z => by unfold CellO at z; cases z))
abbrev NTe : List Str := ["field", "hands", "asked", "tells", "names"]
theorem scTe : FnScope NTe ["field", "hands", "asked"] (defScope sTeller) := ⟨rfl, rfl, rfl, by decide +kernel, rfl, by decide +kernel, by decide +kernel⟩
def spTeller (P : Program) (w : World) (K : PySem.W.Frag) (mg : Str → Option Value) (base : Heap) (C : Addr) (T : List NTab) : Sp := fun vs H Q _ => ∃ (a d : Addr) (ns hn : List Str) (ps : List Addr) (ls : List (List Str)) (tbl : List (List Int)) (x : Str), vs = [.ref a, .ref d, .str x] ∧ TgAt K H C a d ns hn ps ls tbl ∧ H d = some (.dK (hv hn ps)) ∧ x ∈ ns ∧ TabsN T H ∧
  ∀ f H', H f = none → Grow H H' → TabsN T H' → Cal P w K mg base 6 f (TellR hn.length (tellG (knowT ns hn ls tbl x) hn)) H' → Q (.ref f) H'
theorem hv_keysV {hn : List Str} {ps : List Addr} (h : hn.length = ps.length) : ((hv hn ps).map fun kv => kV kv.1) = hn.map V.str := by
  have z := congrArg (List.map kV) (hv_keys h)
  rw [List.map_map, List.map_map] at z
  exact z
theorem ok_teller {c Pt : Addr} {Tb : List NTab} (F : Fun K "_teller" "_teller" sTeller f fd) (hc : fd.code = .ref c) (TB : TabB base mg c Pt) (hm : (Pt, fun _ _ => qTl) ∈ Tb) (hu : ∀ p ∈ Tb, p.1 = Pt → p.2 = fun _ _ => qTl)
    (T : TabM K C fQ fI fPl fPr) (Ck : Chk K mg aF aL aO aK aA aB) (FTo : Fun K "_together" "_together" sTogether fTo fdTo) (gTo : mg "_together" = some (.ref fTo)) : FnOk P w K mg base CX0 1 f fd ["field", "hands", "asked"] (spTeller P w K mg base C Tb) := by
  refine fn_toldP (st := sTl) (name := "tells") (js := [4, 1, 0, 2]) (fr := ["names", "hands", "field", "asked"]) (i := 3) (N := NTe) F hc scTe (fun vs H Q E h => by obtain ⟨a, d, _, _, _, _, _, _, e, _⟩ := h; rw [e]; rfl) (by rfl) (by rfl) TB hm rfl hu (by decide +kernel) rfl rfl (fun _ => rfl) rfl (.inl (by decide +kernel)) (by decide) (by decide) (fun _ => by rfl) (by decide) rfl (by decide) fun A outer s H vs Q E hr h => ?_
  obtain ⟨a, d, ns, hn, ps, ls, tbl, x, rfl, I, hd, xin, hT, hq⟩ := h
  have nd := scTe.nd
  refine ⟨_, ps_set (i := 4) nd rfl (Or.inr rfl) (pe_callTy (call_listD rfl) rfl Ck.nL boot_list' (pa_cons (pv 1) pa_nil)), ?_⟩
  refine ⟨_, rfl, d, _, rfl, .inl hd, fun n nn => ?_⟩
  rw [hv_keysV I.h.ln]
  have kn := same_new (o := .lst (hn.map V.str)) nn
  have on : upd H n (.lst (hn.map V.str)) n = some (.lst (hn.map V.str)) := upd_same
  generalize upd H n (.lst (hn.map V.str)) = H1 at kn on
  have O : OwnH K H1 C a d n ns hn ps ls tbl x := ⟨I.same kn, on, xin⟩
  refine ⟨hT.ext kn, Grow.of kn, rfl, [.ref n, .ref d, .ref a, .str x], fun _ => rfl, fun cl c' f' H' g T' nf f1 c1 held => hq f' H' (kn.free nf) ((Grow.of kn).trans g) T' ?_⟩
  refine cal_of (F := NF.of sTl "tells" qTl cl c') (ok_tl T Ck FTo gTo cl c') f1 c1 held fun H2 e2 v y hR => ?_
  obtain ⟨b, gs, rfl, hb, lt, pnd, rfl⟩ := hR
  have h2 := held.ext e2
  exact ⟨a, d, n, b, ns, hn, ps, ls, tbl, x, gs, rfl, rfl, (O.ext (g.n.trans e2)).offC h2, same_off h2 hb (fun v z => by unfold CellO at z; cases z), lt, pnd, fun H3 s3 => ⟨rfl, same_on h2 s3⟩⟩
end
end L2.TB
namespace L2.TB
open PySem PySem.Spec PyProof.Rows
open HF NdefX LamX
/-! least groups, outsiders -/
def leastGI (T : List Str → Prop) [DecidablePred T] (own : List Str) : List (List Str) := inOrder own (leastG T own)
def spGroups (K : PySem.W.Frag) (C : Addr) (T : List NTab) (L : (T : List Str → Prop) → [DecidablePred T] → List Str → List (List Str)) : Sp := fun vs H Q _ => ∃ (a d : Addr) (ns hn : List Str) (ps : List Addr) (ls : List (List Str)) (tbl : List (List Int)) (x : Str), vs = [.ref a, .ref d, .str x] ∧ TgAt K H C a d ns hn ps ls tbl ∧ H d = some (.dK (hv hn ps)) ∧ x ∈ ns ∧ TabsN T H ∧
  ∀ H' q qs, H q = none → H' q = some (.lst ((qs : List Addr).map V.ref)) → FilesAt H' qs (L (knowT ns hn ls tbl x) hn) → Grow H H' → TabsN T H' → Q (.ref q) H'
abbrev NGr : List Str := ["field", "hands", "asked", "names", "groups", "group", "place"]
theorem scGr : FnScope NGr ["field", "hands", "asked"] (defScope sLeastG) := ⟨rfl, rfl, rfl, by decide +kernel, rfl, by decide +kernel, by decide +kernel⟩
theorem scOu : FnScope NGr ["field", "hands", "asked"] (defScope sOutsiders) := ⟨rfl, rfl, rfl, by decide +kernel, rfl, by decide +kernel, by decide +kernel⟩
abbrev scIn : Scope := { kind := ScopeKind.function, names := [(Str.ofString ".0", NameKind.local), (Str.ofString "group", NameKind.local), (Str.ofString "names", NameKind.cell)], isGenerator := false, isCoroutine := false }
structure LowH (P : Program) (w : World) (K : PySem.W.Frag) (mg : Str → Option Value) (base : Heap) (C : Addr) (T : List NTab) : Prop where
  B : ∃ f fd, mg "_check_both" = some (.ref f) ∧ Fun K "_check_both" "_check_both" sCkHA f fd ∧ FnOk P w K mg base CX0 4 f fd ["field", "hands", "asked"] (spCkHA K C)
  H : ∃ f fd, mg "check_hands" = some (.ref f) ∧ Fun K "check_hands" "check_hands" sCkH f fd ∧ FnOk P w K mg base CX0 3 f fd ["names", "hands"] (spCkH K)
  G : ∃ f fd, mg "_together" = some (.ref f) ∧ Fun K "_together" "_together" sTogether f fd ∧ FnOk P w K mg base CX0 2 f fd ["field", "hands", "group"] (spTog K C)
  E : ∃ f fd, mg "_teller" = some (.ref f) ∧ Fun K "_teller" "_teller" sTeller f fd ∧ FnOk P w K mg base CX0 1 f fd ["field", "hands", "asked"] (spTeller P w K mg base C T)
  L : ∃ f fd, mg "least_sets" = some (.ref f) ∧ Fun K "least_sets" "least_sets" sLeastS f fd ∧ FnOk P w K mg base CX0 8 f fd ["many", "tells"] (spLeastS P w K mg base T)
  M : ∃ f fd, mg "most_sets" = some (.ref f) ∧ Fun K "most_sets" "most_sets" sMostS f fd ∧ FnOk P w K mg base CX0 8 f fd ["many", "tells"] (spMostS P w K mg base)
  n : mg "len" = none
  nL : mg "list" = none
  nA : mg "all" = none
theorem files_back {H : Hp} {own : List Str} : ∀ {ts : List Addr} {ls : List (List Nat)}, Paired (fun t l => H t = some (.lst l)) ts (ls.map fun ps => (atP own ps).map V.str) → FilesAt H ts (ls.map (atP own))
  | [], [], _ => .nil
  | t :: ts, l :: ls, .cons h r => .cons h (files_back r)
theorem sets_get {H : Hp} {ts : List Addr} {ls : List (List Nat)} (h : SetsAt H ts ls) {i : Nat} {t : Addr} (e : ts[i]? = some t) : ∃ l, ls[i]? = some l ∧ H t = some (.lst (placesV l)) := paired_get h e
theorem places_map {hn : List Str} {gs : List Nat} : ((placesV gs).filter fun _ => true).map (fun v => match v with | .int i => V.str (hn.getD i.toNat (Str.ofString "")) | v => v) = (atP hn gs).map V.str := by
  unfold placesV atP
  rw [List.filter_eq_self.mpr (fun _ _ => rfl), List.map_map, List.map_map]
  rfl
section
variable {P : Program} {w : World} {K : PySem.W.Frag} {mg : Str → Option Value} {base : Heap} {f C : Addr} {fd : FuncData} {T : List NTab}
theorem ok_leastG (F : Fun K "least_groups" "least_groups" sLeastG f fd) (W : LowH P w K mg base C T) : FnOk P w K mg base CX0 9 f fd ["field", "hands", "asked"] (spGroups K C T @leastGI) := by
  obtain ⟨fB, fdB, gB, FB, GB⟩ := W.B
  obtain ⟨fE, fdE, gE, FE, GE⟩ := W.E
  obtain ⟨fL, fdL, gL, FL, GL⟩ := W.L
  have bB := FB.binds (ps := ["field", "hands", "asked"]) fun _ _ _ _ _ _ us hl => match us, hl with | [_, _, _], _ => rfl
  have bE := FE.binds (ps := ["field", "hands", "asked"]) fun _ _ _ _ _ _ us hl => match us, hl with | [_, _, _], _ => rfl
  have bL := FL.binds (ps := ["many", "tells"]) fun _ _ _ _ _ _ us hl => match us, hl with | [_, _], _ => rfl
  refine F.ok scGr (fun vs H Q E h => by obtain ⟨a, d, _, _, _, _, _, _, e, _⟩ := h; rw [e]; rfl) fun cdv A outer s H vs Q E hr hsp => ?_
  obtain ⟨a, d, ns, hn, ps, ls, tbl, x, rfl, I, hd, xin, hT, hq⟩ := hsp
  have nd := scGr.nd
  have gN := W.n
  refine ⟨_, pss_cons (ps_expr (pe_call GB (hr.mono (by decide)) rfl gB FB.kp bB .nil pass0 (pa_cons (pv 0) (pa_cons (pv 1) (pa_cons (pv 2) pa_nil)))))
    (pss_cons (ps_set (i := 3) nd rfl (Or.inr rfl) (pe_callTy (call_listD rfl) rfl W.nL boot_list' (pa_cons (pv 1) pa_nil)))
    (pss_cons (ps_set (i := 4) nd rfl (Or.inl rfl) (pe_call GL hr rfl gL FL.kp bL .nil pass0 (pa_cons (pe_callB (r := rLenS K) call_len_seq rfl gN boot_len (pa_cons (pv 3) pa_nil)) (pa_cons (pe_call GE (hr.mono (by decide)) rfl gE FE.kp bE .nil pass0 (pa_cons (pv 0) (pa_cons (pv 1) (pa_cons (pv 2) pa_nil)))) pa_nil))))
    (pss_one (ps_ret (pe_lc (own := [("group", 5)]) (tt := tYes) (g := gName 5) (te := tLc (iSeq K (tVar 5)) (gName 6) tYes (tOp (rIxL K) (tVar 3) (tVar 6)) [6]) rfl nd (pi_list (pv 4)) (blkOk_by (N := NGr) (sc := defScope sLeastG) (by decide +kernel)) (fun _ _ _ _ _ => pg_name (i := 5) nd rfl (Or.inl rfl)) (fun _ _ _ _ _ => pts_nil)
      (fun _ _ _ _ _ => pe_lc (own := [("place", 6)]) (tt := tYes) (g := gName 6) (te := tOp (rIxL K) (tVar 3) (tVar 6)) rfl nd (pi_seq (pv 5)) (blkOk_by (N := NGr) (sc := scIn) (by decide +kernel)) (fun _ _ _ _ _ => pg_name (i := 6) nd rfl (Or.inl rfl)) (fun _ _ _ _ _ => pts_nil) (fun _ _ _ _ _ => pe_ix (r := rIxL K) ix_list (pv 3) (pv 6) (fun _ _ => rfl)))))))), ?_⟩
  have few := I.ok.few
  refine ⟨_, rfl, _, rfl, _, rfl, a, d, ns, hn, ps, ls, tbl, x, rfl, I, hd, xin, fun H1 k1 => ?_⟩
  refine ⟨_, rfl, d, _, rfl, .inl (k1 _ _ hd), fun n nn => ?_⟩
  rw [hv_keysV I.h.ln]
  have kn := same_new (o := .lst (hn.map V.str)) nn
  have on : upd H1 n (.lst (hn.map V.str)) n = some (.lst (hn.map V.str)) := upd_same
  generalize upd H1 n (.lst (hn.map V.str)) = H2 at kn on
  have k12 := k1.trans kn
  refine ⟨_, rfl, n, _, rfl, .inl (SqL.of on), ?_⟩
  rw [List.length_map]
  refine ⟨_, rfl, _, rfl, _, rfl, a, d, ns, hn, ps, ls, tbl, x, rfl, I.same k12, k12 _ _ hd, xin, hT.ext k12, fun g H3 ng g3 T3 cal => ?_⟩
  refine ⟨hn.length, g, tellG (knowT ns hn ls tbl x) hn, rfl, few, cal, up_tellG know_mono hn, T3, fun H4 q ts nq oq sets g4 T4 => ?_⟩
  have on4 : H4 n = some (.lst (hn.map V.str)) := g4.n _ _ (g3.n _ _ on (fun _ z => by cases z)) (fun _ z => by cases z)
  have lts : ts.length = (leastO hn.length (tellG (knowT ns hn ls tbl x) hn)).length := Paired.length sets
  have short : (leastO hn.length (tellG (knowT ns hn ls tbl x) hn)).length ≤ 1024 := by
    have h1 := two_pow_le few
    unfold leastO
    rw [List.length_mergeSort]
    unfold goodL
    rw [List.length_map]
    have h2 := List.length_filter_le (goodM hn.length (tellG (knowT ns hn ls tbl x) hn)) (List.range (2 ^ hn.length))
    rw [List.length_range] at h2
    omega
  have inn : ∀ l ∈ leastO hn.length (tellG (knowT ns hn ls tbl x) hn), ∀ p ∈ l, p < hn.length := fun l hl => good_lt l (List.mem_mergeSort.mp hl)
  have inl : ∀ l ∈ leastO hn.length (tellG (knowT ns hn ls tbl x) hn), l.length ≤ hn.length := fun l hl => by
    obtain ⟨m, _, rfl⟩ := List.mem_map.mp (List.mem_mergeSort.mp hl)
    exact bits_short
  refine ⟨_, rfl, q, rfl, ⟨_, SqL.of oq⟩, lc_listsG ((leastO hn.length (tellG (knowT ns hn ls tbl x) hn)).map fun ps => (atP hn ps).map V.str) (by rw [List.length_map]; omega) (fun i H' s lt => ⟨_, _, SqL.of (s _ _ oq), List.getElem?_eq_getElem (by rw [List.length_map]; rw [List.length_map] at lt; omega)⟩) (fun H' s => ⟨_, SqL.of (s _ _ oq), by rw [List.length_map, List.length_map]; omega⟩) ?_ ?_⟩
  · rintro i v l H5 H6 Cn Nn el s5 ⟨rfl, ev⟩ yes
    have ev := ev _ (SqL.of (s5 _ _ oq))
    rw [List.getElem?_map] at ev el
    obtain ⟨t, et, rfl⟩ := Option.map_eq_some_iff.mp ev
    obtain ⟨gs, ep, ot⟩ := sets_get (sets.same s5) et
    rw [ep] at el
    obtain rfl : (atP hn gs).map V.str = l := Option.some.inj el
    have hm := List.mem_of_getElem? ep
    have on5 := s5 _ _ on4
    refine ⟨rfl, ?_⟩
    refine ⟨_, rfl, lc_seq (.inl rfl) ot (by unfold placesV; rw [List.length_map]; have := inl gs hm; omega) (fun _ => true) (fun v => match v with | .int i => .str (hn.getD i.toNat (Str.ofString "")) | v => v) ?_ ?_⟩
    · rintro j v H7 Cm Nm ev7 s7 yes7 no7
      unfold placesV at ev7
      rw [List.getElem?_map] at ev7
      obtain ⟨p, ep7, rfl⟩ := Option.map_eq_some_iff.mp ev7
      have lp := inn gs hm p (List.mem_of_getElem? ep7)
      refine ⟨rfl, ?_⟩
      refine ⟨_, rfl, _, rfl, n, _, _, _, rfl, rfl, SqL.of (s7 _ _ on5), atI_nat (by rw [List.getElem?_map, List.getElem?_eq_getElem lp]; rfl), ?_⟩
      have e : hn.getD p (Str.ofString "") = hn[p] := by rw [List.getD_eq_getElem?_getD, List.getElem?_eq_getElem lp]; rfl
      have z := yes7 rfl H7 (Same.refl _)
      simp only [Int.toNat_natCast] at z
      rw [e] at z
      exact z
    · intro H7 q7 n7 o7 k7
      rw [places_map] at o7
      exact yes q7 H7 n7 o7 k7
  · intro H5 D ts2 nD oD pr s5 _
    have fl := files_back pr
    rw [leastO_eq know_mono I.h.nd] at fl
    have gr : Grow H H5 := (Grow.of k12).trans (g3.trans (g4.trans (.of s5)))
    exact hq H5 D ts2 (k12.free (g3.f _ (g4.f _ nD))) oD fl gr (T4.ext s5)
theorem ok_outs (F : Fun K "outsiders" "outsiders" sOutsiders f fd) (W : LowH P w K mg base C T) : FnOk P w K mg base CX0 9 f fd ["field", "hands", "asked"] (spGroups K C T @mostSG) := by
  obtain ⟨fB, fdB, gB, FB, GB⟩ := W.B
  obtain ⟨fE, fdE, gE, FE, GE⟩ := W.E
  obtain ⟨fL, fdL, gL, FL, GL⟩ := W.M
  have bB := FB.binds (ps := ["field", "hands", "asked"]) fun _ _ _ _ _ _ us hl => match us, hl with | [_, _, _], _ => rfl
  have bE := FE.binds (ps := ["field", "hands", "asked"]) fun _ _ _ _ _ _ us hl => match us, hl with | [_, _, _], _ => rfl
  have bL := FL.binds (ps := ["many", "tells"]) fun _ _ _ _ _ _ us hl => match us, hl with | [_, _], _ => rfl
  refine F.ok scOu (fun vs H Q E h => by obtain ⟨a, d, _, _, _, _, _, _, e, _⟩ := h; rw [e]; rfl) fun cdv A outer s H vs Q E hr hsp => ?_
  obtain ⟨a, d, ns, hn, ps, ls, tbl, x, rfl, I, hd, xin, hT, hq⟩ := hsp
  have nd := scOu.nd
  have gN := W.n
  refine ⟨_, pss_cons (ps_expr (pe_call GB (hr.mono (by decide)) rfl gB FB.kp bB .nil pass0 (pa_cons (pv 0) (pa_cons (pv 1) (pa_cons (pv 2) pa_nil)))))
    (pss_cons (ps_set (i := 3) nd rfl (Or.inr rfl) (pe_callTy (call_listD rfl) rfl W.nL boot_list' (pa_cons (pv 1) pa_nil)))
    (pss_cons (ps_set (i := 4) nd rfl (Or.inl rfl) (pe_call GL hr rfl gL FL.kp bL .nil pass0 (pa_cons (pe_callB (r := rLenS K) call_len_seq rfl gN boot_len (pa_cons (pv 3) pa_nil)) (pa_cons (pe_call GE (hr.mono (by decide)) rfl gE FE.kp bE .nil pass0 (pa_cons (pv 0) (pa_cons (pv 1) (pa_cons (pv 2) pa_nil)))) pa_nil))))
    (pss_one (ps_ret (pe_lc (own := [("group", 5)]) (tt := tYes) (g := gName 5) (te := tLc (iSeq K (tVar 5)) (gName 6) tYes (tOp (rIxL K) (tVar 3) (tVar 6)) [6]) rfl nd (pi_list (pv 4)) (blkOk_by (N := NGr) (sc := defScope sOutsiders) (by decide +kernel)) (fun _ _ _ _ _ => pg_name (i := 5) nd rfl (Or.inl rfl)) (fun _ _ _ _ _ => pts_nil)
      (fun _ _ _ _ _ => pe_lc (own := [("place", 6)]) (tt := tYes) (g := gName 6) (te := tOp (rIxL K) (tVar 3) (tVar 6)) rfl nd (pi_seq (pv 5)) (blkOk_by (N := NGr) (sc := scIn) (by decide +kernel)) (fun _ _ _ _ _ => pg_name (i := 6) nd rfl (Or.inl rfl)) (fun _ _ _ _ _ => pts_nil) (fun _ _ _ _ _ => pe_ix (r := rIxL K) ix_list (pv 3) (pv 6) (fun _ _ => rfl)))))))), ?_⟩
  have few := I.ok.few
  refine ⟨_, rfl, _, rfl, _, rfl, a, d, ns, hn, ps, ls, tbl, x, rfl, I, hd, xin, fun H1 k1 => ?_⟩
  refine ⟨_, rfl, d, _, rfl, .inl (k1 _ _ hd), fun n nn => ?_⟩
  rw [hv_keysV I.h.ln]
  have kn := same_new (o := .lst (hn.map V.str)) nn
  have on : upd H1 n (.lst (hn.map V.str)) n = some (.lst (hn.map V.str)) := upd_same
  generalize upd H1 n (.lst (hn.map V.str)) = H2 at kn on
  have k12 := k1.trans kn
  refine ⟨_, rfl, n, _, rfl, .inl (SqL.of on), ?_⟩
  rw [List.length_map]
  refine ⟨_, rfl, _, rfl, _, rfl, a, d, ns, hn, ps, ls, tbl, x, rfl, I.same k12, k12 _ _ hd, xin, hT.ext k12, fun g H3 ng g3 T3 cal => ?_⟩
  refine ⟨hn.length, g, tellG (knowT ns hn ls tbl x) hn, rfl, few, cal, up_tellG know_mono hn, fun H4 q ts nq oq sets k4 => ?_⟩
  have g4 := Grow.of k4
  have T4 := T3.ext k4
  have on4 : H4 n = some (.lst (hn.map V.str)) := g4.n _ _ (g3.n _ _ on (fun _ z => by cases z)) (fun _ z => by cases z)
  have lts : ts.length = (mostO hn.length (tellG (knowT ns hn ls tbl x) hn)).length := Paired.length sets
  have short : (mostO hn.length (tellG (knowT ns hn ls tbl x) hn)).length ≤ 1024 := by
    have h1 := two_pow_le few
    unfold mostO
    rw [List.length_mergeSort]
    unfold mostR
    rw [List.length_map]
    have h2 := List.length_filter_le (mostM hn.length (tellG (knowT ns hn ls tbl x) hn)) (List.range (2 ^ hn.length))
    rw [List.length_range] at h2
    omega
  have inn : ∀ l ∈ mostO hn.length (tellG (knowT ns hn ls tbl x) hn), ∀ p ∈ l, p < hn.length := fun l hl => most_lt l (List.mem_mergeSort.mp hl)
  have inl : ∀ l ∈ mostO hn.length (tellG (knowT ns hn ls tbl x) hn), l.length ≤ hn.length := fun l hl => by
    obtain ⟨m, _, rfl⟩ := List.mem_map.mp (List.mem_mergeSort.mp hl)
    exact bits_short
  refine ⟨_, rfl, q, rfl, ⟨_, SqL.of oq⟩, lc_listsG ((mostO hn.length (tellG (knowT ns hn ls tbl x) hn)).map fun ps => (atP hn ps).map V.str) (by rw [List.length_map]; omega) (fun i H' s lt => ⟨_, _, SqL.of (s _ _ oq), List.getElem?_eq_getElem (by rw [List.length_map]; rw [List.length_map] at lt; omega)⟩) (fun H' s => ⟨_, SqL.of (s _ _ oq), by rw [List.length_map, List.length_map]; omega⟩) ?_ ?_⟩
  · rintro i v l H5 H6 Cn Nn el s5 ⟨rfl, ev⟩ yes
    have ev := ev _ (SqL.of (s5 _ _ oq))
    rw [List.getElem?_map] at ev el
    obtain ⟨t, et, rfl⟩ := Option.map_eq_some_iff.mp ev
    obtain ⟨gs, ep, ot⟩ := sets_get (sets.same s5) et
    rw [ep] at el
    obtain rfl : (atP hn gs).map V.str = l := Option.some.inj el
    have hm := List.mem_of_getElem? ep
    have on5 := s5 _ _ on4
    refine ⟨rfl, ?_⟩
    refine ⟨_, rfl, lc_seq (.inl rfl) ot (by unfold placesV; rw [List.length_map]; have := inl gs hm; omega) (fun _ => true) (fun v => match v with | .int i => .str (hn.getD i.toNat (Str.ofString "")) | v => v) ?_ ?_⟩
    · rintro j v H7 Cm Nm ev7 s7 yes7 no7
      unfold placesV at ev7
      rw [List.getElem?_map] at ev7
      obtain ⟨p, ep7, rfl⟩ := Option.map_eq_some_iff.mp ev7
      have lp := inn gs hm p (List.mem_of_getElem? ep7)
      refine ⟨rfl, ?_⟩
      refine ⟨_, rfl, _, rfl, n, _, _, _, rfl, rfl, SqL.of (s7 _ _ on5), atI_nat (by rw [List.getElem?_map, List.getElem?_eq_getElem lp]; rfl), ?_⟩
      have e : hn.getD p (Str.ofString "") = hn[p] := by rw [List.getD_eq_getElem?_getD, List.getElem?_eq_getElem lp]; rfl
      have z := yes7 rfl H7 (Same.refl _)
      simp only [Int.toNat_natCast] at z
      rw [e] at z
      exact z
    · intro H7 q7 n7 o7 k7
      rw [places_map] at o7
      exact yes q7 H7 n7 o7 k7
  · intro H5 D ts2 nD oD pr s5 _
    have fl := files_back pr
    rw [mostO_eq know_mono I.h.nd] at fl
    have gr : Grow H H5 := (Grow.of k12).trans (g3.trans (g4.trans (.of s5)))
    exact hq H5 D ts2 (k12.free (g3.f _ (g4.f _ nD))) oD fl gr (T4.ext s5)
end
end L2.TB
namespace L2.TB
open PySem PySem.Spec PyProof.Rows
open HF NdefX LamX
/-! knows, may_tell, is_safe -/
def spKnows (K : PySem.W.Frag) (C : Addr) : Sp := fun vs H Q _ => ∃ (a d g : Addr) (ns hn gs : List Str) (ps : List Addr) (ls : List (List Str)) (tbl : List (List Int)) (x : Str), vs = [.ref a, .ref d, .ref g, .str x] ∧ TgAt K H C a d ns hn ps ls tbl ∧ H d = some (.dK (hv hn ps)) ∧ x ∈ ns ∧ SqA K H g (gs.map V.str) ∧ gs.Nodup ∧ (∀ y ∈ gs, y ∈ hn) ∧
  ∀ H', Same H H' → Q (.bl (decide (knowT ns hn ls tbl x gs))) H'
abbrev NKn : List Str := ["field", "hands", "group", "asked", "index"]
theorem scKn : FnScope NKn ["field", "hands", "group", "asked"] (defScope sKnows) := ⟨rfl, rfl, rfl, by decide +kernel, rfl, by decide +kernel, by decide +kernel⟩
def spIsOneD (K : PySem.W.Frag) : Sp := fun vs H Q _ => ∃ (d : Addr) (hn : List Str) (ps : List Addr) (ls : List (List Str)) (x : Str), vs = [.ref d, .str x] ∧ Hs K H d hn ps ls ∧ x ∈ hn ∧ Q (.bl true) H
/-- what may be told to a hand -/
def mayT (ns : List Str) (tbl : List (List Int)) (has : List Str) (x : Str) : List Str := if Tells ns tbl has x then [] else ns.filter fun y => decide (y ∈ has) || !decide (Tells ns tbl (has ++ [y]) x)
def spMay (K : PySem.W.Frag) (C : Addr) : Sp := fun vs H Q _ => ∃ (a d : Addr) (ns hn : List Str) (ps : List Addr) (ls : List (List Str)) (tbl : List (List Int)) (h x : Str), vs = [.ref a, .ref d, .str h, .str x] ∧ TgAt K H C a d ns hn ps ls tbl ∧ H d = some (.dK (hv hn ps)) ∧ x ∈ ns ∧ h ∈ hn ∧
  ∀ H' q, H q = none → H' q = some (.lst ((mayT ns tbl (hl hn ls h) x).map V.str)) → Same H H' → Q (.ref q) H'
abbrev NMy : List Str := ["field", "hands", "name", "asked", "has", "one"]
theorem scMy : FnScope NMy ["field", "hands", "name", "asked"] (defScope sMayTell) := ⟨rfl, rfl, rfl, by decide +kernel, rfl, by decide +kernel, by decide +kernel⟩
def spSafe (K : PySem.W.Frag) (C : Addr) (T : List NTab) : Sp := fun vs H Q _ => ∃ (a d : Addr) (ns hn : List Str) (ps : List Addr) (ls : List (List Str)) (tbl : List (List Int)) (x : Str) (m : Int), vs = [.ref a, .ref d, .int m, .str x] ∧ TgAt K H C a d ns hn ps ls tbl ∧ H d = some (.dK (hv hn ps)) ∧ x ∈ ns ∧ 0 ≤ m ∧ TabsN T H ∧
  ∀ H', Grow H H' → TabsN T H' → Q (.bl ((leastGI (knowT ns hn ls tbl x) hn).all fun l => decide (m < (l.length : Int)))) H'
abbrev NSf : List Str := ["field", "hands", "most", "asked", "group"]
theorem scSf : FnScope NSf ["field", "hands", "most", "asked"] (defScope sIsSafe) := ⟨rfl, rfl, rfl, by decide +kernel, rfl, by decide +kernel, by decide +kernel⟩
def spIsCount : Sp := fun vs H Q _ => ∃ k : Int, vs = [.int k] ∧ 0 ≤ k ∧ Q (.bl true) H
theorem scIsCount : FnScope ["thing"] ["thing"] (defScope sIsCount) := ⟨rfl, rfl, rfl, by decide +kernel, rfl, by decide +kernel, by decide +kernel⟩
abbrev tMayT (K : PySem.W.Frag) (C : Addr) : TT := tOr (tTest (tOp (rIn K false) (tVar 5) (tVar 4))) (tNot (tB (tMeth C "is_told" (spIsTold K C) [] E0 (tVar 0) (tCons (tLst (StX.tStar K (tVar 4) (tCons (tVar 5) tNil))) (tCons (tVar 3) tNil)))))
theorem hl_nd {ns hn : List Str} {ls : List (List Str)} (ok : HOk2 ns hn ls) (h : Str) : (hl hn ls h).Nodup := by
  unfold hl
  rw [List.getD_eq_getElem?_getD]
  cases e : ls[idx hn h]? with
  | none => exact .nil
  | some l => exact ok.lnd l (List.mem_of_getElem? e)
section
variable {P : Program} {w : World} {K : PySem.W.Frag} {mg : Str → Option Value} {base : Heap} {f fI fG C fQ fI' fPl fPr aF aL aO aK aA aB : Addr} {fd fdI fdG : FuncData} {Tb : List NTab}
theorem ok_isCount (F : Fun K "is_count" "is_count" sIsCount f fd) (FI : Fun K "is_integer" "is_integer" sIsInt fI fdI) (gI : mg "is_integer" = some (.ref fI)) (nI : mg "isinstance" = none) (nInt : mg "int" = none) (nB : mg "bool" = none) : FnOk P w K mg base CX0 2 f fd ["thing"] spIsCount := by
  have GI : FnOk P w K mg base CX0 1 fI fdI ["thing"] spIsInt := ok_isInt FI nI nInt nB
  have bI := FI.binds (ps := ["thing"]) fun _ _ _ _ _ _ us hl => match us, hl with | [_], _ => rfl
  refine F.ok scIsCount (fun vs H Q E h => by obtain ⟨k, e, _⟩ := h; rw [e]; rfl) fun cdv A outer s H vs Q E hr hsp => ?_
  obtain ⟨k, rfl, h0, hq⟩ := hsp
  refine ⟨_, pss_one (ps_ret (pe_and (pe_call GI hr rfl gI FI.kp bI .nil pass0 (pa_cons (pv 0) pa_nil)) (pe_one (pe_cmpR op_ge (pv 0) pe_int (nomark _))))), ?_⟩
  refine ⟨_, rfl, k, rfl, _, rfl, iteT ⟨_, rfl, _, _, rfl, rfl, ?_⟩⟩
  have e : decide ((0 : Int) ≤ k) = true := decide_eq_true h0
  show Q (.bl (decide ((0 : Int) ≤ k))) H
  rw [e]
  exact hq
theorem ok_isOneD (F : Fun K "is_one_of" "is_one_of" sIsOne f fd) (gI : mg "isinstance" = none) (gS : mg "str" = none) : FnOk P w K mg base CX0 1 f fd ["names", "thing"] (spIsOneD K) := by
  refine F.ok scIsOne (fun vs H Q E h => by obtain ⟨d, hn, ps, ls, x, e, _⟩ := h; rw [e]; rfl) fun cdv A outer s H vs Q E hr hsp => ?_
  obtain ⟨d, hn, ps, ls, x, rfl, I, xin, hq⟩ := hsp
  have hu := hu_of hr
  refine ⟨_, pss_one (ps_ret (pe_and (pe_callB (r := rIsi K) call_isi rfl gI boot_isi (pa_cons (pv 1) (pa_cons (pe_bltn (v := .ty "str") rfl gS boot_str' rfl) pa_nil)))
    (pe_one (pe_cmp (pc_din hu (pv 1) (pv 0)))))), ?_⟩
  obtain ⟨p, _, _, dg, _⟩ := I.get xin
  exact ⟨_, rfl, _, _, _, _, true, rfl, .ty _, .base (.str x), kit_ty (by decide +kernel), true, rfl, iteT ⟨_, rfl, _, rfl, d, _, rfl, dg, hq⟩⟩
theorem ok_knows (F : Fun K "knows" "knows" sKnows f fd) (T : TabM K C fQ fI' fPl fPr) (Ck : Chk K mg aF aL aO aK aA aB) (W : LowH P w K mg base C Tb) : FnOk P w K mg base CX0 6 f fd ["field", "hands", "group", "asked"] (spKnows K C) := by
  obtain ⟨fdQ, FQ⟩ := T.Q
  have GQ := ok_qs (P := P) (w := w) (mg := mg) (base := base) FQ T.toTabC Ck.nL
  have bQ := FQ.binds (ps := ["self"]) fun _ _ _ _ _ _ us hl => match us, hl with | [_], _ => rfl
  obtain ⟨fdC, FC⟩ := Ck.CA
  have GC := ok_ckA (P := P) (w := w) (base := base) Ck FC
  have bC := FC.binds (ps := ["names", "asked"]) fun _ _ _ _ _ _ us hl => match us, hl with | [_, _], _ => rfl
  obtain ⟨fH, fdH, gH, FH, GH⟩ := W.H
  have bH := FH.binds (ps := ["names", "hands"]) fun _ _ _ _ _ _ us hl => match us, hl with | [_, _], _ => rfl
  obtain ⟨fT, fdT, gT, FT, GT⟩ := W.G
  have bT := FT.binds (ps := ["field", "hands", "group"]) fun _ _ _ _ _ _ us hl => match us, hl with | [_, _, _], _ => rfl
  obtain ⟨fdI, FI⟩ := T.I
  have GI := ok_isTold (P := P) (w := w) (mg := mg) (base := base) FI T Ck
  have bI := FI.binds (ps := ["self", "known", "asked"]) fun _ _ _ _ _ _ us hl => match us, hl with | [_, _, _], _ => rfl
  obtain ⟨fdF, FF⟩ := Ck.F
  obtain ⟨fdL, FL⟩ := Ck.L
  obtain ⟨fdO, FO⟩ := Ck.O
  have GF : FnOk P w K mg base CX0 2 aF fdF ["names", "things"] (spFirst K) := ok_first FF FL Ck.gL FO Ck.gO Ck.nI Ck.nL Ck.nT Ck.nS Ck.nE
  have bF := FF.binds (ps := ["names", "things"]) fun _ _ _ _ _ _ us hl => match us, hl with | [_, _], _ => rfl
  refine F.ok scKn (fun vs H Q E h => by obtain ⟨a, d, g, ns, hn, gs, ps, ls, tbl, x, e, _⟩ := h; rw [e]; rfl) fun cdv A outer s H vs Q E hr hsp => ?_
  obtain ⟨a, d, g, ns, hn, gs, ps, ls, tbl, x, rfl, I, hd, xin, hg, gnd, gsub, hq⟩ := hsp
  have nd := scKn.nd
  refine ⟨_, pss_cons (ps_expr (pe_call GH (hr.mono (by decide)) rfl gH FH.kp bH .nil pass0 (pa_cons (pe_meth0 (pv 0) T.cl T.mQ GQ (hr.mono (by decide)) bQ .nil pass0) (pa_cons (pv 1) pa_nil))))
    (pss_cons (ps_set (i := 4) nd rfl (Or.inl rfl) (pe_call GF (hr.mono (by decide)) rfl Ck.gF FF.kp bF .nil pass0 (pa_cons (pe_callTy (call_listD rfl) rfl Ck.nL boot_list' (pa_cons (pv 1) pa_nil)) (pa_cons (pv 2) pa_nil))))
    (pss_cons (ps_if (pt_cmp (pc_notN (pv 4))) (pss_one ps_never) pss_nil)
    (pss_cons (ps_expr (pe_call GC (hr.mono (by decide)) rfl Ck.gCA FC.kp bC .nil pass0 (pa_cons (pe_meth0 (pv 0) T.cl T.mQ GQ (hr.mono (by decide)) bQ .nil pass0) (pa_cons (pv 3) pa_nil))))
    (pss_one (ps_ret (pe_meth (pv 0) T.cl T.mI GI hr bI .nil pass0 (pa_cons (pe_call GT (hr.mono (by decide)) rfl gT FT.kp bT .nil pass0 (pa_cons (pv 0) (pa_cons (pv 1) (pa_cons (pv 2) pa_nil)))) (pa_cons (pv 3) pa_nil)))))))), ?_⟩
  obtain ⟨dx, qa, ra, ha, hqa, hra⟩ := id I.t.ex
  have few := I.ok.few
  have gsh : gs.length < 1000 := by
    have := List.Nodup.length_le_of_subset gnd (fun y hy => gsub y hy)
    omega
  refine ⟨_, rfl, a, dx, _, rfl, ha, rfl, a, ns, tbl, rfl, I.t, fun H1 q1 n1 o1 k1 => ?_⟩
  refine ⟨_, rfl, q1, d, ns, hn, ps, ls, rfl, o1, I.h.same k1, k1 _ _ hd, I.ok, fun H2 k2 => ?_⟩
  have k12 := k1.trans k2
  refine ⟨_, rfl, d, _, rfl, .inl (k12 _ _ hd), fun n nn => ?_⟩
  rw [hv_keysV I.h.ln]
  have kn := same_new (o := .lst (hn.map V.str)) nn
  have on : upd H2 n (.lst (hn.map V.str)) n = some (.lst (hn.map V.str)) := upd_same
  generalize upd H2 n (.lst (hn.map V.str)) = H3 at kn on
  have k13 := k12.trans kn
  refine ⟨_, rfl, n, g, hn, gs, rfl, on, hg.same k13, gnd, gsub, gsh, fun H4 k4 => ?_⟩
  have k14 := k13.trans k4
  refine ⟨_, rfl, _, rfl, iteF ?_⟩
  refine ⟨_, rfl, a, dx, _, rfl, k14 _ _ ha, rfl, a, ns, tbl, rfl, I.t.same k14, fun H5 q5 n5 o5 k5 => ?_⟩
  have k15 := k14.trans k5
  refine ⟨_, rfl, q5, ns, x, rfl, SqL.of o5, xin, ?_⟩
  refine ⟨_, rfl, a, dx, _, rfl, k15 _ _ ha, rfl, ?_⟩
  refine ⟨_, rfl, _, rfl, _, rfl, a, d, g, ns, hn, gs, ps, ls, tbl, rfl, I.same k15, hg.same k15, gsub, gsh, fun H6 q6 n6 o6 k6 => ?_⟩
  have k16 := k15.trans k6
  exact ⟨_, rfl, a, q6, ns, joinG ns hn ls gs, x, tbl, rfl, ⟨I.t.same k16, .inl o6, join_nd I.ndn, join_sub, I.ok.sh, I.s2, I.ndn⟩, xin, fun H7 k7 => hq H7 (k16.trans k7)⟩
theorem ok_may (F : Fun K "may_tell" "may_tell" sMayTell f fd) (T : TabM K C fQ fI' fPl fPr) (Ck : Chk K mg aF aL aO aK aA aB) (W : LowH P w K mg base C Tb) : FnOk P w K mg base CX0 6 f fd ["field", "hands", "name", "asked"] (spMay K C) := by
  obtain ⟨fdQ, FQ⟩ := T.Q
  have GQ := ok_qs (P := P) (w := w) (mg := mg) (base := base) FQ T.toTabC Ck.nL
  have bQ := FQ.binds (ps := ["self"]) fun _ _ _ _ _ _ us hl => match us, hl with | [_], _ => rfl
  obtain ⟨fdC, FC⟩ := Ck.CA
  have GC := ok_ckA (P := P) (w := w) (base := base) Ck FC
  have bC := FC.binds (ps := ["names", "asked"]) fun _ _ _ _ _ _ us hl => match us, hl with | [_, _], _ => rfl
  obtain ⟨fH, fdH, gH, FH, GH⟩ := W.H
  have bH := FH.binds (ps := ["names", "hands"]) fun _ _ _ _ _ _ us hl => match us, hl with | [_, _], _ => rfl
  obtain ⟨fdI, FI⟩ := T.I
  have GI := ok_isTold (P := P) (w := w) (mg := mg) (base := base) FI T Ck
  have bI := FI.binds (ps := ["self", "known", "asked"]) fun _ _ _ _ _ _ us hl => match us, hl with | [_, _, _], _ => rfl
  obtain ⟨fdO, FO⟩ := Ck.O
  have GO : FnOk P w K mg base CX0 1 aO fdO ["names", "thing"] (spIsOneD K) := ok_isOneD FO Ck.nI Ck.nS
  have bO := FO.binds (ps := ["names", "thing"]) fun _ _ _ _ _ _ us hl => match us, hl with | [_, _], _ => rfl
  refine F.ok scMy (fun vs H Q E h => by obtain ⟨a, d, ns, hn, ps, ls, tbl, h, x, e, _⟩ := h; rw [e]; rfl) fun cdv A outer s H vs Q E hr hsp => ?_
  obtain ⟨a, d, ns, hn, ps, ls, tbl, h, x, rfl, I, hd, xin, hin, hq⟩ := hsp
  have nd := scMy.nd
  have hu := hu_of hr
  refine ⟨_, pss_cons (ps_expr (pe_call GH (hr.mono (by decide)) rfl gH FH.kp bH .nil pass0 (pa_cons (pe_meth0 (pv 0) T.cl T.mQ GQ (hr.mono (by decide)) bQ .nil pass0) (pa_cons (pv 1) pa_nil))))
    (pss_cons (ps_if (pt_not (pt_val (pe_call GO (hr.mono (by decide)) rfl Ck.gO FO.kp bO .nil pass0 (pa_cons (pv 1) (pa_cons (pv 2) pa_nil))))) (pss_one ps_never) pss_nil)
    (pss_cons (ps_expr (pe_call GC (hr.mono (by decide)) rfl Ck.gCA FC.kp bC .nil pass0 (pa_cons (pe_meth0 (pv 0) T.cl T.mQ GQ (hr.mono (by decide)) bQ .nil pass0) (pa_cons (pv 3) pa_nil))))
    (pss_cons (ps_set (i := 4) nd rfl (Or.inr rfl) (pe_callTy call_list_of rfl Ck.nL boot_list' (pa_cons (pe_dget hu (pv 1) (pv 2) (fun _ _ => rfl)) pa_nil)))
    (pss_cons (ps_if (pt_val (pe_meth (pv 0) T.cl T.mI GI hr bI .nil pass0 (pa_cons (pv 4) (pa_cons (pv 3) pa_nil)))) (pss_one (ps_ret (pe_lst pa_nil))) pss_nil)
    (pss_one (ps_ret (pe_lc (own := [("one", 5)]) (tt := tMayT K C) (te := tVar 5) (g := gName 5) rfl nd (pi_seq (pe_meth0 (pv 0) T.cl T.mQ GQ (hr.mono (by decide)) bQ .nil pass0)) (blkOk_by (N := NMy) (sc := defScope sMayTell) (by decide +kernel)) (fun _ _ _ _ _ => pg_name (i := 5) nd rfl (Or.inl rfl))
      (fun _ _ _ _ _ => pts_one (PW.pt (pw_or (pt_cmpR (r := rIn K false) op_in_seq (pv 5) (pv 4) rfl) (pw_or1 (pt_not (pt_val (pe_meth (pv 0) T.cl T.mI GI hr bI .nil pass0 (pa_cons (pe_lst (StX.pa_star (te := tVar 4) (t := tCons (tVar 5) tNil) (pv 4) (pa_cons (pv 5) pa_nil))) (pa_cons (pv 3) pa_nil))))))))) (fun _ _ _ _ _ => pv 5)))))))), ?_⟩
  obtain ⟨dx, qa, ra, ha, hqa, hra⟩ := id I.t.ex
  refine ⟨_, rfl, a, dx, _, rfl, ha, rfl, a, ns, tbl, rfl, I.t, fun H1 q1 n1 o1 k1 => ?_⟩
  refine ⟨_, rfl, q1, d, ns, hn, ps, ls, rfl, o1, I.h.same k1, k1 _ _ hd, I.ok, fun H2 k2 => ?_⟩
  have k12 := k1.trans k2
  refine ⟨_, rfl, _, rfl, d, hn, ps, ls, h, rfl, I.h.same k12, hin, _, rfl, iteF ?_⟩
  refine ⟨_, rfl, a, dx, _, rfl, k12 _ _ ha, rfl, a, ns, tbl, rfl, I.t.same k12, fun H3 q3 n3 o3 k3 => ?_⟩
  have k13 := k12.trans k3
  refine ⟨_, rfl, q3, ns, x, rfl, SqL.of o3, xin, ?_⟩
  obtain ⟨p, w1, w2, dg, sq⟩ := (I.h.same k13).get hin
  refine ⟨_, rfl, _, rfl, d, _, rfl, dg, p, _, rfl, sq.seq, fun n nn => ?_⟩
  have kn := same_new (o := .lst ((hl hn ls h).map V.str)) nn
  have on : upd H3 n (.lst ((hl hn ls h).map V.str)) n = some (.lst ((hl hn ls h).map V.str)) := upd_same
  generalize upd H3 n (.lst ((hl hn ls h).map V.str)) = H4 at kn on
  have k14 := k13.trans kn
  have hnd := hl_nd I.ok h
  have hsub : ∀ y ∈ hl hn ls h, y ∈ ns := ListA.hlsub I.ok h
  have hsh := nodup_short hnd hsub I.ok.sh
  refine ⟨_, rfl, a, dx, _, rfl, k14 _ _ ha, rfl, _, rfl, _, rfl, a, n, ns, hl hn ls h, x, tbl, rfl, ⟨I.t.same k14, .inl on, hnd, hsub, I.ok.sh, I.s2, I.ndn⟩, xin, fun H5 k5 => ?_⟩
  have k15 := k14.trans k5
  have on5 := k5 _ _ on
  refine ⟨_, rfl, ?_⟩
  cases c : decide (Tells ns tbl (hl hn ls h) x) with
  | true =>
    refine iteT ⟨Nat.zero_le _, fun q nq => ?_⟩
    refine hq _ q (k15.free nq) ?_ (k15.trans (same_new nq))
    unfold mayT
    rw [if_pos (of_decide_eq_true c)]
    exact upd_same
  | false =>
    refine iteF ?_
    refine ⟨_, rfl, a, dx, _, rfl, k15 _ _ ha, rfl, a, ns, tbl, rfl, I.t.same k15, fun H6 q6 n6 o6 k6 => ?_⟩
    have k16 := k15.trans k6
    have on6 := k6 _ _ on5
    refine lc_seq (.inl rfl) o6 (by have := I.ok.sh; rw [List.length_map]; omega) (isStr fun y => decide (y ∈ hl hn ls h) || !decide (Tells ns tbl (hl hn ls h ++ [y]) x)) id ?_ ?_
    · rintro i v H7 Cn Nn ev s7 yes no
      rw [List.getElem?_map] at ev
      obtain ⟨y, ey, rfl⟩ := Option.map_eq_some_iff.mp ev
      have k17 := k16.trans s7
      refine ⟨rfl, ?_⟩
      refine ⟨_, rfl, _, rfl, n, _, rfl, .inl (SqL.of (s7 _ _ on6)), rfl, flat_strs _, ?_⟩
      rw [inV_strs]
      cases c1 : decide (y ∈ hl hn ls h) with
      | true => exact ⟨_, rfl, _, rfl, yes (by show (decide (y ∈ hl hn ls h) || _) = true; rw [c1]; rfl) H7 (Same.refl _)⟩
      | false =>
        refine ⟨_, rfl, iteF ?_⟩
        refine ⟨_, rfl, a, dx, _, rfl, k17 _ _ ha, rfl, _, rfl, n, _, rfl, .inr (SqL.of (s7 _ _ on6)), _, rfl, (by rw [sizeLine_eq, List.length_append, List.length_map]; show _ + 1 ≤ _; omega), fun m nm => ?_⟩
        have e : (hl hn ls h).map V.str ++ [V.str y] = (hl hn ls h ++ [y]).map V.str := by rw [List.map_append]; rfl
        have km := same_new (o := .lst ((hl hn ls h).map V.str ++ [V.str y])) nm
        have om : upd H7 m (.lst ((hl hn ls h).map V.str ++ [V.str y])) m = some (.lst ((hl hn ls h ++ [y]).map V.str)) := by rw [upd_same, e]
        generalize upd H7 m (.lst ((hl hn ls h).map V.str ++ [V.str y])) = H8 at km om
        have yin : y ∈ ns := List.mem_of_getElem? ey
        have yno := of_decide_eq_false c1
        refine ⟨_, rfl, a, m, ns, hl hn ls h ++ [y], x, tbl, rfl, ⟨I.t.same (k17.trans km), .inl om, List.nodup_append.mpr ⟨hnd, by simp, fun u hu z hz ez => yno (by rw [← List.mem_singleton.mp hz, ← ez]; exact hu)⟩, fun z hz => (List.mem_append.mp hz).elim (hsub z) (fun q => by rw [List.mem_singleton.mp q]; exact yin), I.ok.sh, I.s2, I.ndn⟩, xin, fun H9 k9 => ?_⟩
        refine ⟨_, rfl, ?_⟩
        cases c2 : decide (Tells ns tbl (hl hn ls h ++ [y]) x) with
        | true => exact iteF (no (by show (decide (y ∈ hl hn ls h) || !decide (Tells ns tbl (hl hn ls h ++ [y]) x)) = false; rw [c1, c2]; rfl) H9 (km.trans k9))
        | false => exact iteT ⟨_, rfl, yes (by show (decide (y ∈ hl hn ls h) || !decide (Tells ns tbl (hl hn ls h ++ [y]) x)) = true; rw [c1, c2]; rfl) H9 (km.trans k9)⟩
    · intro H7 D nD oD s7
      rw [filter_strs] at oD
      refine hq H7 D (k16.free nD) ?_ (k16.trans s7)
      unfold mayT
      rw [if_neg (of_decide_eq_false c)]
      exact oD
end
end L2.TB
namespace L2.TB
open PySem PySem.Spec PyProof.Rows
open HF NdefX LamX
theorem two_pow10 {n : Nat} (h : n ≤ 10) : 2 ^ n ≤ 1024 := Nat.le_trans (Nat.pow_le_pow_right (by decide) h) (by decide)
theorem leastGI_short {T : List Str → Prop} [DecidablePred T] {own : List Str} (few : own.length ≤ 10) : (leastGI T own).length ≤ 1024 := by
  have h1 : (leastGI T own).length ≤ (filesL own).length := by
    unfold leastGI inOrder leastG telG
    rw [List.length_mergeSort]
    exact Nat.le_trans (List.length_filter_le _ _) (List.length_filter_le _ _)
  rw [files_len] at h1
  exact Nat.le_trans h1 (two_pow10 few)
theorem mostSG_short {T : List Str → Prop} [DecidablePred T] {own : List Str} (few : own.length ≤ 10) : (mostSG T own).length ≤ 1024 := by
  have h1 : (mostSG T own).length ≤ (filesL own).length := by
    unfold mostSG mostG silG
    rw [List.length_mergeSort]
    exact Nat.le_trans (List.length_filter_le _ _) (List.length_filter_le _ _)
  rw [files_len] at h1
  exact Nat.le_trans h1 (two_pow10 few)
theorem leastGI_in {T : List Str → Prop} [DecidablePred T] {own : List Str} : ∀ l ∈ leastGI T own, List.Sublist l own := fun l hl => (files_mem own l).mp (List.mem_filter.mp (List.mem_filter.mp (List.mem_mergeSort.mp hl)).1).1
theorem mostSG_in {T : List Str → Prop} [DecidablePred T] {own : List Str} : ∀ l ∈ mostSG T own, List.Sublist l own := fun l hl => (files_mem own l).mp (List.mem_filter.mp (List.mem_filter.mp (List.mem_mergeSort.mp hl)).1).1
section
variable {P : Program} {w : World} {K : PySem.W.Frag} {mg : Str → Option Value} {base : Heap} {f fI fG fCt C fQ fI' fPl fPr aF aL aO aK aA aB : Addr} {fd fdI fdG fdCt : FuncData} {Tb : List NTab}
theorem ok_safe (F : Fun K "is_safe" "is_safe" sIsSafe f fd) (T : TabM K C fQ fI' fPl fPr) (Ck : Chk K mg aF aL aO aK aA aB) (W : LowH P w K mg base C Tb)
    (FCt : Fun K "is_count" "is_count" sIsCount fCt fdCt) (gCt : mg "is_count" = some (.ref fCt)) (GCt : FnOk P w K mg base CX0 2 fCt fdCt ["thing"] spIsCount)
    (FG : Fun K "least_groups" "least_groups" sLeastG fG fdG) (gG : mg "least_groups" = some (.ref fG)) (GG : FnOk P w K mg base CX0 9 fG fdG ["field", "hands", "asked"] (spGroups K C Tb @leastGI)) : FnOk P w K mg base CX0 10 f fd ["field", "hands", "most", "asked"] (spSafe K C Tb) := by
  obtain ⟨fdQ, FQ⟩ := T.Q
  have GQ := ok_qs (P := P) (w := w) (mg := mg) (base := base) FQ T.toTabC Ck.nL
  have bQ := FQ.binds (ps := ["self"]) fun _ _ _ _ _ _ us hl => match us, hl with | [_], _ => rfl
  obtain ⟨fdC, FC⟩ := Ck.CA
  have GC := ok_ckA (P := P) (w := w) (base := base) Ck FC
  have bC := FC.binds (ps := ["names", "asked"]) fun _ _ _ _ _ _ us hl => match us, hl with | [_, _], _ => rfl
  obtain ⟨fH, fdH, gH, FH, GH⟩ := W.H
  have bH := FH.binds (ps := ["names", "hands"]) fun _ _ _ _ _ _ us hl => match us, hl with | [_, _], _ => rfl
  have bCt := FCt.binds (ps := ["thing"]) fun _ _ _ _ _ _ us hl => match us, hl with | [_], _ => rfl
  have bG := FG.binds (ps := ["field", "hands", "asked"]) fun _ _ _ _ _ _ us hl => match us, hl with | [_, _, _], _ => rfl
  refine F.ok scSf (fun vs H Q E h => by obtain ⟨a, d, ns, hn, ps, ls, tbl, x, m, e, _⟩ := h; rw [e]; rfl) fun cdv A outer s H vs Q E hr hsp => ?_
  obtain ⟨a, d, ns, hn, ps, ls, tbl, x, m, rfl, I, hd, xin, m0, hT, hq⟩ := hsp
  have nd := scSf.nd
  have gN := W.n
  refine ⟨_, pss_cons (ps_expr (pe_call GH (hr.mono (by decide)) rfl gH FH.kp bH .nil pass0 (pa_cons (pe_meth0 (pv 0) T.cl T.mQ GQ (hr.mono (by decide)) bQ .nil pass0) (pa_cons (pv 1) pa_nil))))
    (pss_cons (ps_if (pt_not (pt_val (pe_call GCt (hr.mono (by decide)) rfl gCt FCt.kp bCt .nil pass0 (pa_cons (pv 2) pa_nil)))) (pss_one ps_never) pss_nil)
    (pss_cons (ps_expr (pe_call GC (hr.mono (by decide)) rfl Ck.gCA FC.kp bC .nil pass0 (pa_cons (pe_meth0 (pv 0) T.cl T.mQ GQ (hr.mono (by decide)) bQ .nil pass0) (pa_cons (pv 3) pa_nil))))
    (pss_one (ps_ret (pe_callB (r := rAll K) (cr_all rfl) rfl W.nA boot_all' (pa_cons (pe_lc (own := [("group", 4)]) (tt := tYes) (g := gName 4) (te := tOp (rI0 fun i j => .bl (decide (j < i))) (tCB (rLenS K) (tCons (tVar 4) tNil)) (tVar 2)) rfl nd (pi_list (pe_call GG hr rfl gG FG.kp bG .nil pass0 (pa_cons (pv 0) (pa_cons (pv 1) (pa_cons (pv 3) pa_nil)))))
      (blkOk_by (N := NSf) (sc := defScope sIsSafe) (by decide +kernel)) (fun _ _ _ _ _ => pg_name (i := 4) nd rfl (Or.inl rfl)) (fun _ _ _ _ _ => pts_nil) (fun _ _ _ _ _ => pe_cmpR op_gt (pe_callB (r := rLenS K) call_len_seq rfl gN boot_len (pa_cons (pv 4) pa_nil)) (pv 2) (nomark _))) pa_nil)))))), ?_⟩
  obtain ⟨dx, qa, ra, ha, hqa, hra⟩ := id I.t.ex
  have few := I.ok.few
  refine ⟨_, rfl, a, dx, _, rfl, ha, rfl, a, ns, tbl, rfl, I.t, fun H1 q1 n1 o1 k1 => ?_⟩
  refine ⟨_, rfl, q1, d, ns, hn, ps, ls, rfl, o1, I.h.same k1, k1 _ _ hd, I.ok, fun H2 k2 => ?_⟩
  have k12 := k1.trans k2
  refine ⟨_, rfl, m, rfl, m0, _, rfl, iteF ?_⟩
  refine ⟨_, rfl, a, dx, _, rfl, k12 _ _ ha, rfl, a, ns, tbl, rfl, I.t.same k12, fun H3 q3 n3 o3 k3 => ?_⟩
  have k13 := k12.trans k3
  refine ⟨_, rfl, q3, ns, x, rfl, SqL.of o3, xin, ?_⟩
  refine ⟨_, rfl, _, rfl, _, rfl, a, d, ns, hn, ps, ls, tbl, x, rfl, I.same k13, k13 _ _ hd, xin, hT.ext k13, fun H4 q qs nq oq fl g4 T4 => ?_⟩
  have fl : FilesAt H4 qs (leastGI (knowT ns hn ls tbl x) hn) := fl
  have lq := Paired.length fl
  have sh := leastGI_short (T := knowT ns hn ls tbl x) few
  refine ⟨q, rfl, ⟨_, SqL.of oq⟩, lc_gen (((leastGI (knowT ns hn ls tbl x) hn).map fun l => decide (m < (l.length : Int))).map V.bl) (by rw [List.length_map, List.length_map]; omega) (fun i H' s lt => ⟨_, _, SqL.of (s _ _ oq), List.getElem?_eq_getElem (by rw [List.length_map]; rw [List.length_map, List.length_map] at lt; omega)⟩) (fun H' s => ⟨_, SqL.of (s _ _ oq), by rw [List.length_map, List.length_map, List.length_map]; omega⟩) ?_ ?_⟩
  · rintro i v y H5 H6 Cn Nn ey s5 ⟨rfl, ev⟩ yes
    have ev := ev _ (SqL.of (s5 _ _ oq))
    rw [List.getElem?_map] at ev
    obtain ⟨t, et, rfl⟩ := Option.map_eq_some_iff.mp ev
    obtain ⟨l, el, ot⟩ := paired_get (fl.same s5) et
    rw [List.getElem?_map, List.getElem?_map, el] at ey
    obtain rfl : V.bl (decide (m < (l.length : Int))) = y := Option.some.inj ey
    refine ⟨rfl, ?_⟩
    refine ⟨_, rfl, t, _, rfl, .inl (SqL.of ot), _, rfl, _, _, rfl, rfl, ?_⟩
    rw [List.length_map]
    exact yes _ (Same.refl _)
  · intro H5 D nD oD s5
    refine ⟨D, _, rfl, SqL.of oD, ?_⟩
    have e : ((leastGI (knowT ns hn ls tbl x) hn).map fun l => decide (m < (l.length : Int))).all id = (leastGI (knowT ns hn ls tbl x) hn).all fun l => decide (m < (l.length : Int)) := by rw [List.all_map]; rfl
    rw [e]
    exact hq H5 ((Grow.of k13).trans (g4.trans (.of s5))) (T4.ext s5)
end
end L2.TB
namespace L2.TB
open PySem PySem.Spec PyProof.Rows
/-! the law's look at groups -/
def spJoined (K : PySem.W.Frag) : Sp := fun vs H Q _ => ∃ (d g n : Addr) (ns hn gs : List Str) (ps : List Addr) (ls : List (List Str)), vs = [.ref d, .ref g, .ref n] ∧ Hs K H d hn ps ls ∧ H g = some (.lst (gs.map V.str)) ∧ H n = some (.lst (ns.map V.str)) ∧ (∀ y ∈ gs, y ∈ hn) ∧ gs.length < 1000 ∧ ns.length < 1000 ∧
  ∀ H' q, H q = none → H' q = some (.lst ((joinG ns hn ls gs).map V.str)) → Same H H' → Q (.ref q) H'
abbrev NJo : List Str := ["hands", "group", "names", "name", "hand"]
theorem scJo : FnScope NJo ["hands", "group", "names"] (defScope sJoined) := ⟨rfl, rfl, rfl, by decide +kernel, rfl, by decide +kernel, by decide +kernel⟩
abbrev scJi : Scope := { kind := ScopeKind.function, names := [(Str.ofString ".0", NameKind.local), (Str.ofString "name", NameKind.cell), (Str.ofString "any", NameKind.globalImplicit), (Str.ofString "group", NameKind.cell), (Str.ofString "hands", NameKind.cell)], isGenerator := false, isCoroutine := false }
abbrev tJoin (K : PySem.W.Frag) : TT := tB (tCB (rAny K) (tCons (tLc (iSeq K (tVar 1)) (gName 4) tYes (tOp (rIn K false) (tVar 3) (tDGet (tVar 0) (tVar 4))) [4]) tNil))
section
variable {P : Program} {w : World} {K : PySem.W.Frag} {mg : Str → Option Value} {base : Heap} {f : Addr} {fd : FuncData}
theorem ok_joined (F : Fun K "_law_joined" "_law_joined" sJoined f fd) (nY : mg "any" = none) : FnOk P w K mg base CX0 1 f fd ["hands", "group", "names"] (spJoined K) := by
  refine F.ok scJo (fun vs H Q E h => by obtain ⟨d, g, n, ns, hn, gs, ps, ls, e, _⟩ := h; rw [e]; rfl) fun cdv A outer s H vs Q E hr hsp => ?_
  obtain ⟨d, g, n, ns, hn, gs, ps, ls, rfl, I, hg, hN, gsub, gsh, nsh, hq⟩ := hsp
  have nd := scJo.nd
  have hu := hu_of hr
  refine ⟨_, pss_one (ps_ret (pe_lc (own := [("name", 3)]) (te := tVar 3) (g := gName 3) (tt := tJoin K) rfl nd (pi_seq (pv 2)) (blkOk_by (N := NJo) (sc := defScope sJoined) (by decide +kernel)) (fun _ _ _ _ _ => pg_name (i := 3) nd rfl (Or.inr rfl))
    (fun _ _ _ _ _ => pts_one (pt_val (pe_callB (r := rAny K) (cr_any rfl) rfl nY boot_any' (pa_cons (pe_lc (own := [("hand", 4)]) (tt := tYes) (g := gName 4) (te := tOp (rIn K false) (tVar 3) (tDGet (tVar 0) (tVar 4))) rfl nd (pi_seq (pv 1)) (blkOk_by (N := NJo) (sc := scJi) (by decide +kernel)) (fun _ _ _ _ _ => pg_name (i := 4) nd rfl (Or.inl rfl)) (fun _ _ _ _ _ => pts_nil)
      (fun _ _ _ _ _ => pe_cmpR op_in_seq (pv 3) (pe_dget hu (pv 0) (pv 4) (fun _ _ => rfl)) rfl)) pa_nil)))) (fun _ _ _ _ _ => pv 3))), ?_⟩
  refine ⟨_, rfl, lc_seq (.inl rfl) hN (by rw [List.length_map]; omega) (isStr fun y => gs.any fun h => decide (y ∈ hl hn ls h)) id ?_ ?_⟩
  · rintro i v H2 Cn Nn ev s2 yes no
    rw [List.getElem?_map] at ev
    obtain ⟨y, ey, rfl⟩ := Option.map_eq_some_iff.mp ev
    refine ⟨rfl, ?_⟩
    refine ⟨_, rfl, lc_seq (.inl rfl) (s2 _ _ hg) (by rw [List.length_map]; omega) (fun _ => true) (fun v => match v with | .str h => .bl (decide (y ∈ hl hn ls h)) | _ => .non) ?_ ?_⟩
    · rintro j v H3 Cm Nm ev3 s3 yes3 no3
      rw [List.getElem?_map] at ev3
      obtain ⟨h, eh, rfl⟩ := Option.map_eq_some_iff.mp ev3
      obtain ⟨p, w1, w2, dg, sq⟩ := ((I.same s2).same s3).get (gsub h (List.mem_of_getElem? eh))
      refine ⟨rfl, ?_⟩
      refine ⟨_, rfl, _, rfl, _, rfl, d, _, rfl, dg, p, _, rfl, sq.seq, rfl, flat_strs _, ?_⟩
      rw [inV_strs]
      exact yes3 rfl H3 (Same.refl _)
    · intro H3 D nD oD s3
      have e : ((gs.map V.str).filter fun _ => true).map (fun v => match v with | .str h => V.bl (decide (y ∈ hl hn ls h)) | _ => .non) = (gs.map fun h => decide (y ∈ hl hn ls h)).map V.bl := by
        rw [List.filter_eq_self.mpr (fun _ _ => rfl), List.map_map, List.map_map]
        rfl
      rw [e] at oD
      refine ⟨D, _, rfl, SqL.of oD, _, rfl, ?_⟩
      have e2 : (gs.map fun h => decide (y ∈ hl hn ls h)).any id = gs.any fun h => decide (y ∈ hl hn ls h) := by rw [List.any_map]; rfl
      rw [e2]
      cases c : gs.any fun h => decide (y ∈ hl hn ls h) with
      | true => exact ⟨_, rfl, yes c H3 s3⟩
      | false => exact no c H3 s3
  · intro H2 D nD oD s2
    rw [filter_strs] at oD
    exact hq H2 D nD oD s2
end
end L2.TB
namespace L2.TB
open PySem PySem.Spec PyProof.Rows
/-! the law's own least groups and outsiders, sorted -/
abbrev NDu : List Str := ["rows", "hands", "asked", "names", "own", "groups", "know", "rest", "least", "most", "group", "other", "size", "places", "one"]
theorem scDue : FnScope NDu ["rows", "hands", "asked"] (defScope sDue) := ⟨rfl, rfl, rfl, by decide +kernel, rfl, by decide +kernel, by decide +kernel⟩
section
variable {P : Program} {w : World} {K : PySem.W.Frag} {mg : Str → Option Value} {base : Heap} {f fP : Addr} {fd fdP : FuncData}
theorem due_b (FP : Fun K "_law_t_places" "_law_t_places" sPlaces2 fP fdP) (gP : mg "_law_t_places" = some (.ref fP)) (gN : mg "len" = none) (gS : mg "sorted" = none) {cdv : Value} {A : Around} {outer : List Env} {s : Shared} {H : Hp} {E : XK} (hr : Room 2 (A.deeper (envOfC "_law_due" (defScope sDue) s.heap.objs.size f cdv))) {rest : List Stmt} {u : TS} (hrest : PSs (cxOf CX0 P w K mg base NDu "_law_due" (defScope sDue) f cdv A outer s H E).nox rest u) :
    ∃ t, PSs (cxOf CX0 P w K mg base NDu "_law_due" (defScope sDue) f cdv A outer s H E).nox (((defBody sDue).drop 6).take 1 ++ rest) t ∧ ∀ (D : Ends) (H0 : Hp) (s0 s1 s2 s3 s5 s6 s7 s9 s10 s11 s12 s13 s14 : Option V) (a b : Addr) (names : List Str) (ps : List Addr) (fs : List (List Str)),
      H0 a = some (.lst (names.map V.str)) → H0 b = some (.lst (ps.map V.ref)) → FilesAt H0 ps fs → (∀ l ∈ fs, l.length < 1000 ∧ ∀ x ∈ l, x ∈ names) → fs.length < 2000 →
      (∀ H' q qs, H0 q = none → H' q = some (.lst ((qs : List Addr).map V.ref)) → FilesAt H' qs (inOrder names fs) → Same H0 H' → (∀ p ∈ qs, p ∈ ps) → u D [s0, s1, s2, s3, some (.ref a), s5, s6, s7, some (.ref q), s9, s10, s11, s12, s13, s14] H') →
      t D [s0, s1, s2, s3, some (.ref a), s5, s6, s7, some (.ref b), s9, s10, s11, s12, s13, s14] H0 := by
  have GP : FnOk P w K mg base CX0 1 fP fdP ["names", "file"] spPlacesF := ok_placesF FP
  have bP := FP.binds (ps := ["names", "file"]) fun _ _ _ _ _ _ us hl => match us, hl with | [_, _], _ => rfl
  have nd := scDue.nd
  have hu64 := hr.units
  refine ⟨_, pss_cons (ps_setLc (i := 8) (own := [("size", 12), ("places", 13), ("group", 10)]) (tt := tYes) (te := tVar 10) (g := gTup K 3 (gCons (gName 12) (gCons (gName 13) (gCons (gName 10) gNil)))) rfl nd rfl rfl (sw_true rfl rfl rfl rfl)
      (pi_list (pe_callB (r := rSortedD K) (cr_sortedD hu64) rfl gS (by decide +kernel) (pa_cons (pe_lc (own := [("one", 14)]) (tt := tYes) (g := gName 14) rfl nd (pi_list (pv 8)) (blkOk_by (N := NDu) (sc := defScope sDue) (by decide +kernel)) (fun _ _ _ _ _ => pg_name (i := 14) nd rfl (Or.inl rfl)) (fun _ _ _ _ _ => pts_nil)
        (fun _ _ _ _ _ => pe_tup (pa_cons (pe_callB (r := rLenS K) call_len_seq rfl gN boot_len (pa_cons (pv 14) pa_nil)) (pa_cons (pe_call GP (hr.mono (by decide)) rfl gP FP.kp bP .nil pass0 (pa_cons (pv 4) (pa_cons (pv 14) pa_nil))) (pa_cons (pv 14) pa_nil))))) pa_nil)))
      (blkOk_by (N := NDu) (sc := defScope sDue) (by decide +kernel)) (fun _ _ _ _ _ => pg_tup rfl (pgs_cons (pg_name (i := 12) nd rfl (Or.inl rfl)) (pgs_cons (pg_name (i := 13) nd rfl (Or.inl rfl)) (pgs_cons (pg_name (i := 10) nd rfl (Or.inl rfl)) pgs_nil)))) (fun _ _ _ _ _ => pts_nil) (fun _ _ _ _ _ => pv 10)) hrest, ?_⟩
  intro D H0 s0 s1 s2 s3 s5 s6 s7 s9 s10 s11 s12 s13 s14 a b names ps fs ha hb files ok short hq
  have lps : ps.length = fs.length := Paired.length files
  refine ⟨_, rfl, b, rfl, ⟨_, SqL.of hb⟩, lc_madeD fs.length (by omega) (fun i H' s lt => ⟨_, _, SqL.of (s _ _ hb), List.getElem?_eq_getElem (by rw [List.length_map]; omega)⟩) (fun H' s => ⟨_, SqL.of (s _ _ hb), by rw [List.length_map]; omega⟩)
    (fun D j y H' => ∃ t pl p fl, y = V.ref t ∧ ps[j]? = some p ∧ fs[j]? = some fl ∧ (t ≠ D ∧ H' t = some (.tup [V.int (fl.length : Nat), V.ref pl, V.ref p])) ∧ (pl ≠ D ∧ H' pl = some (.lst (fl.map fun x => V.int (idx names x : Nat)))) ∧ (p ≠ D ∧ H' p = some (.lst (fl.map V.str)))) ?_ ?_ ?_⟩
  · rintro D j y H2 H3 ⟨t, pl, p, fl, rfl, e1, e2, o1, o2, o3⟩ keep
    exact ⟨t, pl, p, fl, rfl, e1, e2, ⟨o1.1, keep _ _ o1.1 o1.2⟩, ⟨o2.1, keep _ _ o2.1 o2.2⟩, ⟨o3.1, keep _ _ o3.1 o3.2⟩⟩
  · rintro D i x H2 H3 Cn Nn nD lt s2 ⟨oD, hD⟩ ⟨rfl, ex⟩ yes
    have ex := ex _ (SqL.of (s2 _ _ hb))
    rw [List.getElem?_map] at ex
    obtain ⟨p, ep, rfl⟩ := Option.map_eq_some_iff.mp ex
    obtain ⟨fl, ef, op⟩ := paired_get (files.same s2) ep
    have pD : p ≠ D := by
      obtain ⟨_, _, op0⟩ := paired_get files ep
      exact ne_of_none op0 nD
    obtain ⟨l1, l2⟩ := ok fl (List.mem_of_getElem? ef)
    refine ⟨rfl, ?_⟩
    refine ⟨_, rfl, p, _, rfl, .inl (SqL.of op), _, rfl, _, rfl, a, p, names, fl, rfl, s2 _ _ ha, op, l2, l1, fun H4 pl npl opl k4 => ?_⟩
    rw [List.length_map]
    refine ⟨_, rfl, (by rw [sizeLine_eq]; show 3 ≤ _; omega), fun t nt => ?_⟩
    have kt := same_new (o := .tup [V.int (fl.length : Nat), V.ref pl, V.ref p]) nt
    refine yes _ _ ⟨t, pl, p, fl, rfl, ep, ef, ⟨fun z => ?_, upd_same⟩, ⟨fun z => ?_, kt _ _ opl⟩, ⟨pD, kt _ _ (k4 _ _ op)⟩⟩ (k4.trans kt)
    · rw [z, k4 _ _ hD] at nt; cases nt
    · rw [z, hD] at npl; cases npl
  · intro H2 D ys nD oD ly ry s2
    obtain ⟨zs, rfl, rfl, hz⟩ := rows4_of (H := H2) (names := names) ys ps fs (by omega) lps fun j y e => by
      obtain ⟨t, pl, p, fl, q1, q2, q3, q4, q5, q6⟩ := ry j y e
      exact ⟨t, pl, p, fl, q1, q2, q3, q4.2, q5.2, q6.2⟩
    rw [List.length_map] at short
    refine ⟨D, zs.map (fun z => (V.ref z.1, encF names z.2.2.2)), rfl, ?_, fun p hp => ?_, ?_, ?_, ?_, fun q nq => ?_⟩
    · rw [List.map_map]; exact SqL.of oD
    · obtain ⟨z, hm, rfl⟩ := List.mem_map.mp hp
      obtain ⟨o1, o2, o3, _⟩ := hz z hm
      exact ⟨encF_dp o1 o2 o3, encF_depth _ _⟩
    · rw [List.map_map]
      exact PySem.W.AllAlike.of fun z z' => encF_alike _ _ _
    · rw [List.map_map]
      exact PySem.W.Sortable.tuples fun z => ⟨_, _, rfl⟩
    · rw [sizeLine_eq, List.length_map]; omega
    have e1 : ((zs.map (fun z => (V.ref z.1, encF names z.2.2.2))).mergeSort (PySem.W.dataLe false (·.2))).map (·.1) = (zs.mergeSort (PySem.W.dataLe false fun z => encF names z.2.2.2)).map fun z => V.ref z.1 := by
      rw [← List.map_mergeSort (r := PySem.W.dataLe false fun z : Row4 => encF names z.2.2.2) (s := PySem.W.dataLe false fun q : V × PyData => q.2) (f := fun z : Row4 => (V.ref z.1, encF names z.2.2.2)) (fun a _ b _ => rfl), List.map_map]
      rfl
    have e2 : inOrder names (zs.map fun z => z.2.2.2) = (zs.mergeSort (PySem.W.dataLe false fun z => encF names z.2.2.2)).map fun z => z.2.2.2 := by
      unfold inOrder
      rw [← List.map_mergeSort (r := PySem.W.dataLe false fun z : Row4 => encF names z.2.2.2) (s := PySem.W.dataLe false (encF names)) (f := fun z : Row4 => z.2.2.2) (fun a _ b _ => rfl)]
    rw [e1]
    rw [e2] at hq
    have hz' : ∀ z ∈ zs.mergeSort (PySem.W.dataLe false fun z => encF names z.2.2.2), z ∈ zs := fun z h => List.mem_mergeSort.mp h
    have lz : (zs.mergeSort (PySem.W.dataLe false fun z => encF names z.2.2.2)).length = zs.length := List.length_mergeSort _
    generalize zs.mergeSort (PySem.W.dataLe false fun z => encF names z.2.2.2) = ws at hz' lz hq
    have kq := same_new (o := .lst (ws.map fun z => V.ref z.1)) nq
    have oq : upd H2 q (.lst (ws.map fun z => V.ref z.1)) q = some (.lst (ws.map fun z => V.ref z.1)) := upd_same
    generalize upd H2 q (.lst (ws.map fun z => V.ref z.1)) = H3 at kq oq
    refine ⟨q, rfl, ⟨_, SqL.of oq⟩, lc_gen (ws.map fun z => V.ref z.2.2.1) (by rw [List.length_map]; omega) (fun i H' s lt => ⟨_, _, SqL.of (s _ _ oq), List.getElem?_eq_getElem (by rw [List.length_map] at lt ⊢; exact lt)⟩) (fun H' s => ⟨_, SqL.of (s _ _ oq), by rw [List.length_map, List.length_map]; exact Nat.le_refl _⟩) ?_ ?_⟩
    · rintro i x y H4 H5 Cn Nn ey s4 ⟨rfl, ex⟩ yes
      have ex := ex _ (SqL.of (s4 _ _ oq))
      rw [List.getElem?_map] at ex ey
      obtain ⟨z, ez, rfl⟩ := Option.map_eq_some_iff.mp ex
      rw [ez] at ey
      obtain rfl := Option.some.inj ey
      obtain ⟨o1, _, _, _⟩ := hz z (hz' z (List.mem_of_getElem? ez))
      refine ⟨z.1, _, rfl, SqT.of (s4 _ _ (kq _ _ o1)), rfl, _, _, rfl, _, _, rfl, _, _, rfl, rfl, rfl, ?_⟩
      exact ⟨_, rfl, yes _ (Same.refl _)⟩
    · intro H4 D4 nD4 oD4 s4
      have k24 := (s2.trans kq).trans s4
      refine hq H4 D4 (ws.map fun z => z.2.2.1) (((s2.trans kq)).free nD4) (by rw [List.map_map]; exact oD4) ?_ k24 (fun p hp => by
        obtain ⟨z, hzm, rfl⟩ := List.mem_map.mp hp
        exact (hz z (hz' z hzm)).2.2.2)
      have z : ∀ {l : List Row4}, (∀ z ∈ l, z ∈ zs) → FilesAt H4 (l.map fun z => z.2.2.1) (l.map fun z => z.2.2.2) := by
        intro l
        induction l with
        | nil => intro _; exact .nil
        | cons x l ih =>
          intro h
          refine .cons ?_ (ih fun z hz => h z (List.mem_cons_of_mem _ hz))
          exact s4 _ _ (kq _ _ (hz x (h x List.mem_cons_self)).2.2.1)
      exact z hz'
theorem due_c (FP : Fun K "_law_t_places" "_law_t_places" sPlaces2 fP fdP) (gP : mg "_law_t_places" = some (.ref fP)) (gS : mg "sorted" = none) {cdv : Value} {A : Around} {outer : List Env} {s : Shared} {H : Hp} {E : XK} (hr : Room 2 (A.deeper (envOfC "_law_due" (defScope sDue) s.heap.objs.size f cdv))) :
    ∃ t, PSs (cxOf CX0 P w K mg base NDu "_law_due" (defScope sDue) f cdv A outer s H E).nox ((defBody sDue).drop 7) t ∧ ∀ (D : Ends) (H0 : Hp) (s0 s1 s2 s3 s5 s6 s7 s10 s11 s12 s13 s14 : Option V) (a b lq : Addr) (own : List Str) (psM : List Addr) (fs : List (List Str)),
      H0 a = some (.lst (own.map V.str)) → H0 b = some (.lst (psM.map V.ref)) → FilesAt H0 psM fs → (∀ l ∈ fs, l.length < 1000 ∧ ∀ x ∈ l, x ∈ own) → fs.length < 2000 →
      (∀ H' t q qs, H0 t = none → H' t = some (.tup [.ref lq, .ref q]) → H' q = some (.lst ((qs : List Addr).map V.ref)) → FilesAt H' qs (fs.mergeSort (PySem.W.dataLe false (enc2 own))) → Same H0 H' → D.rt (.ref t) H') →
      t D [s0, s1, s2, s3, some (.ref a), s5, s6, s7, some (.ref lq), some (.ref b), s10, s11, s12, s13, s14] H0 := by
  have GP : FnOk P w K mg base CX0 1 fP fdP ["names", "file"] spPlacesF := ok_placesF FP
  have bP := FP.binds (ps := ["names", "file"]) fun _ _ _ _ _ _ us hl => match us, hl with | [_, _], _ => rfl
  have nd := scDue.nd
  have hu64 := hr.units
  refine ⟨_, pss_one (ps_ret (pe_tup (pa_cons (pv 8) (pa_cons (pe_lc (own := [("places", 13), ("group", 10)]) (tt := tYes) (te := tVar 10) (g := gTup K 2 (gCons (gName 13) (gCons (gName 10) gNil))) rfl nd
      (pi_list (pe_callB (r := rSortedD K) (cr_sortedD hu64) rfl gS (by decide +kernel) (pa_cons (pe_lc (own := [("one", 14)]) (tt := tYes) (g := gName 14) rfl nd (pi_list (pv 9)) (blkOk_by (N := NDu) (sc := defScope sDue) (by decide +kernel)) (fun _ _ _ _ _ => pg_name (i := 14) nd rfl (Or.inl rfl)) (fun _ _ _ _ _ => pts_nil)
        (fun _ _ _ _ _ => pe_tup (pa_cons (pe_call GP (hr.mono (by decide)) rfl gP FP.kp bP .nil pass0 (pa_cons (pv 4) (pa_cons (pv 14) pa_nil))) (pa_cons (pv 14) pa_nil)))) pa_nil)))
      (blkOk_by (N := NDu) (sc := defScope sDue) (by decide +kernel)) (fun _ _ _ _ _ => pg_tup rfl (pgs_cons (pg_name (i := 13) nd rfl (Or.inl rfl)) (pgs_cons (pg_name (i := 10) nd rfl (Or.inl rfl)) pgs_nil))) (fun _ _ _ _ _ => pts_nil) (fun _ _ _ _ _ => pv 10)) pa_nil)))), ?_⟩
  intro D H0 s0 s1 s2 s3 s5 s6 s7 s10 s11 s12 s13 s14 a qM lq own psM fs oa5 oqM filesM ok short hq
  have lpM : psM.length = fs.length := Paired.length filesM
  refine ⟨_, rfl, _, rfl, qM, rfl, ⟨_, SqL.of oqM⟩, lc_madeD fs.length (by omega) (fun i H' s lt => ⟨_, _, SqL.of (s _ _ oqM), List.getElem?_eq_getElem (by rw [List.length_map]; omega)⟩) (fun H' s => ⟨_, SqL.of (s _ _ oqM), by rw [List.length_map]; omega⟩)
    (fun D j y H' => ∃ t pl p fl, y = V.ref t ∧ psM[j]? = some p ∧ fs[j]? = some fl ∧ (t ≠ D ∧ H' t = some (.tup [V.ref pl, V.ref p])) ∧ (pl ≠ D ∧ H' pl = some (.lst (fl.map fun y => V.int (idx own y : Nat)))) ∧ (p ≠ D ∧ H' p = some (.lst (fl.map V.str)))) ?_ ?_ ?_⟩
  · rintro D j y H6 H7 ⟨t, pl, p, fl, rfl, e1, e2, o1, o2, o3⟩ keep
    exact ⟨t, pl, p, fl, rfl, e1, e2, ⟨o1.1, keep _ _ o1.1 o1.2⟩, ⟨o2.1, keep _ _ o2.1 o2.2⟩, ⟨o3.1, keep _ _ o3.1 o3.2⟩⟩
  · rintro D i v H6 H7 Cn Nn nD lt s6 ⟨oD, hD⟩ ⟨rfl, ex⟩ yes
    have ex := ex _ (SqL.of (s6 _ _ oqM))
    rw [List.getElem?_map] at ex
    obtain ⟨p, ep, rfl⟩ := Option.map_eq_some_iff.mp ex
    obtain ⟨fl, ef, op⟩ := paired_get (filesM.same s6) ep
    have pD : p ≠ D := by
      obtain ⟨_, _, op0⟩ := paired_get filesM ep
      exact ne_of_none op0 nD
    obtain ⟨l1, l2⟩ := ok fl (List.mem_of_getElem? ef)
    refine ⟨rfl, ?_⟩
    refine ⟨_, rfl, _, rfl, a, p, own, fl, rfl, s6 _ _ oa5, op, l2, l1, fun H8 pl npl opl k8 => ?_⟩
    refine ⟨_, rfl, (by rw [sizeLine_eq]; show 2 ≤ _; omega), fun t nt => ?_⟩
    have kt := same_new (o := .tup [V.ref pl, V.ref p]) nt
    refine yes _ _ ⟨t, pl, p, fl, rfl, ep, ef, ⟨fun z => ?_, upd_same⟩, ⟨fun z => ?_, kt _ _ opl⟩, ⟨pD, kt _ _ (k8 _ _ op)⟩⟩ (k8.trans kt)
    · rw [z, k8 _ _ hD] at nt; cases nt
    · rw [z, hD] at npl; cases npl
  intro H6 D ys nD oD ly ry s6
  obtain ⟨zs, rfl, ezs, hz⟩ := rows4b_of (H := H6) (names := own) ys psM fs (by omega) lpM fun j y e => by
    obtain ⟨t, pl, p, fl, q1, q2, q3, q4, q5, q6⟩ := ry j y e
    exact ⟨t, pl, p, fl, q1, q2, q3, q4.2, q5.2, q6.2⟩
  have lzs : zs.length < 2000 := by
    have e := congrArg List.length ezs
    rw [List.length_map] at e
    omega
  refine ⟨D, zs.map (fun z => (V.ref z.1, enc2 own z.2.2.2)), rfl, ?_, fun p hp => ?_, ?_, ?_, ?_, fun q6 nq6 => ?_⟩
  · rw [List.map_map]; exact SqL.of oD
  · obtain ⟨z, hm, rfl⟩ := List.mem_map.mp hp
    obtain ⟨o1, o2, o3⟩ := hz z hm
    exact ⟨enc2_dp o1 o2 o3, enc2_depth _ _⟩
  · rw [List.map_map]
    exact PySem.W.AllAlike.of fun z z' => enc2_alike _ _ _
  · rw [List.map_map]
    exact PySem.W.Sortable.tuples fun z => ⟨_, _, rfl⟩
  · rw [sizeLine_eq, List.length_map]; omega
  have e1 : ((zs.map (fun z => (V.ref z.1, enc2 own z.2.2.2))).mergeSort (PySem.W.dataLe false (·.2))).map (·.1) = (zs.mergeSort (PySem.W.dataLe false fun z => enc2 own z.2.2.2)).map fun z => V.ref z.1 := by
    rw [← List.map_mergeSort (r := PySem.W.dataLe false fun z : Row4 => enc2 own z.2.2.2) (s := PySem.W.dataLe false fun q : V × PyData => q.2) (f := fun z : Row4 => (V.ref z.1, enc2 own z.2.2.2)) (fun a _ b _ => rfl), List.map_map]
    rfl
  have e2 : fs.mergeSort (PySem.W.dataLe false (enc2 own)) = (zs.mergeSort (PySem.W.dataLe false fun z => enc2 own z.2.2.2)).map fun z => z.2.2.2 := by
    rw [ezs, ← List.map_mergeSort (r := PySem.W.dataLe false fun z : Row4 => enc2 own z.2.2.2) (s := PySem.W.dataLe false (enc2 own)) (f := fun z : Row4 => z.2.2.2) (fun a _ b _ => rfl)]
  rw [e1]
  rw [e2] at hq
  have hz' : ∀ z ∈ zs.mergeSort (PySem.W.dataLe false fun z => enc2 own z.2.2.2), z ∈ zs := fun z h => List.mem_mergeSort.mp h
  have lz : (zs.mergeSort (PySem.W.dataLe false fun z => enc2 own z.2.2.2)).length = zs.length := List.length_mergeSort _
  generalize zs.mergeSort (PySem.W.dataLe false fun z => enc2 own z.2.2.2) = ws at hz' lz hq
  have kq := same_new (o := .lst (ws.map fun z => V.ref z.1)) nq6
  have oq6 : upd H6 q6 (.lst (ws.map fun z => V.ref z.1)) q6 = some (.lst (ws.map fun z => V.ref z.1)) := upd_same
  generalize upd H6 q6 (.lst (ws.map fun z => V.ref z.1)) = H7 at kq oq6
  refine ⟨q6, rfl, ⟨_, SqL.of oq6⟩, lc_gen (ws.map fun z => V.ref z.2.2.1) (by rw [List.length_map]; omega) (fun i H' s lt => ⟨_, _, SqL.of (s _ _ oq6), List.getElem?_eq_getElem (by rw [List.length_map] at lt ⊢; exact lt)⟩) (fun H' s => ⟨_, SqL.of (s _ _ oq6), by rw [List.length_map, List.length_map]; exact Nat.le_refl _⟩) ?_ ?_⟩
  · rintro i v y H8 H9 Cn Nn ey s8 ⟨rfl, ex⟩ yes
    have ex := ex _ (SqL.of (s8 _ _ oq6))
    rw [List.getElem?_map] at ex ey
    obtain ⟨z, ez, rfl⟩ := Option.map_eq_some_iff.mp ex
    rw [ez] at ey
    obtain rfl := Option.some.inj ey
    obtain ⟨o1, _, _⟩ := hz z (hz' z (List.mem_of_getElem? ez))
    refine ⟨z.1, _, rfl, SqT.of (s8 _ _ (kq _ _ o1)), rfl, _, _, rfl, _, _, rfl, rfl, rfl, ?_⟩
    exact ⟨_, rfl, yes _ (Same.refl _)⟩
  intro H8 D8 nD8 oD8 s8
  have k58 : Same H0 H8 := (s6.trans kq).trans s8
  have filesW : FilesAt H8 (ws.map fun z => z.2.2.1) (ws.map fun z => z.2.2.2) := by
    have z : ∀ {l : List Row4}, (∀ z ∈ l, z ∈ zs) → FilesAt H8 (l.map fun z => z.2.2.1) (l.map fun z => z.2.2.2) := by
      intro l
      induction l with
      | nil => intro _; exact .nil
      | cons x l ih =>
        intro h
        refine .cons ?_ (ih fun z hz => h z (List.mem_cons_of_mem _ hz))
        exact s8 _ _ (kq _ _ (hz x (h x List.mem_cons_self)).2.2)
    exact z hz'
  refine ⟨(by rw [sizeLine_eq]; show 2 ≤ _; omega), fun t nt => ?_⟩
  have kt := same_new (o := .tup [V.ref lq, V.ref D8]) nt
  exact hq _ t D8 (ws.map fun z => z.2.2.1) (k58.free nt) upd_same (by rw [List.map_map]; exact kt _ _ oD8) (filesW.same kt) (k58.trans kt)
end
end L2.TB
namespace L2.TB
open PySem PySem.Spec PyProof.Rows
def spDueH (K : PySem.W.Frag) : Sp := fun vs H Q _ => ∃ (r d : Addr) (as : List Addr) (ns hn : List Str) (ps : List Addr) (ls : List (List Str)) (x : Str) (tbl : List (List Int)), vs = [.ref r, .ref d, .str x] ∧ H r = some (.lst (as.map V.ref)) ∧ DRows H ns as tbl ∧ tbl ≠ [] ∧ ns.Nodup ∧ Hs K H d hn ps ls ∧ HOk2 ns hn ls ∧ hn.length ≤ 9 ∧ x ∈ ns ∧
  ∀ H' t q1 q2 qs1 qs2, H t = none → H' t = some (.tup [V.ref q1, V.ref q2]) → H' q1 = some (.lst ((qs1 : List Addr).map V.ref)) → H' q2 = some (.lst ((qs2 : List Addr).map V.ref)) → FilesAt H' qs1 (leastGI (knowT ns hn ls tbl x) hn) → FilesAt H' qs2 (mostSG (knowT ns hn ls tbl x) hn) → Same H H' → H q1 = none → (∀ p ∈ qs1, H p = none) → Q (.ref t) H'
abbrev scD4 : Scope := { kind := ScopeKind.function, names := [(Str.ofString ".0", NameKind.local), (Str.ofString "group", NameKind.cell), (Str.ofString "any", NameKind.globalImplicit), (Str.ofString "know", NameKind.cell)], isGenerator := false, isCoroutine := false }
abbrev scD5 : Scope := { kind := ScopeKind.function, names := [(Str.ofString ".0", NameKind.local), (Str.ofString "group", NameKind.cell), (Str.ofString "any", NameKind.globalImplicit), (Str.ofString "rest", NameKind.cell)], isGenerator := false, isCoroutine := false }
abbrev tAnyL (K : PySem.W.Frag) (i a b : Nat) : TT := tNot (tB (tCB (rAny K) (tCons (tLc (iList K (tVar i)) (gName 11) tYes (tCall spLess [] E0 (tCons (tVar a) (tCons (tVar b) tNil))) [11]) tNil)))
theorem nm_strOk {x : Str} (h : NmOk x) : PyData.strOk x = true := by
  unfold PyData.strOk
  rw [← Array.all_toList, List.all_eq_true]
  intro c hc
  have z : ∀ c ∈ signsL, c < 0x110000 := by decide +kernel
  exact decide_eq_true (z c (h.2.2 c hc))
section
variable {P : Program} {w : World} {K : PySem.W.Frag} {mg : Str → Option Value} {base : Heap} {f fF fT fK fL fP fJ : Addr} {fd fdF fdT fdK fdL fdP fdJ : FuncData}
theorem ok_due (F : Fun K "_law_due" "_law_due" sDue f fd) (FF : Fun K "_law_t_files" "_law_t_files" sFiles fF fdF) (gF : mg "_law_t_files" = some (.ref fF)) (FT : Fun K "_law_t_tells" "_law_t_tells" sTells fT fdT) (gTl : mg "_law_t_tells" = some (.ref fT)) (FK : Fun K "_law_t_key" "_law_t_key" sKey fK fdK) (gK : mg "_law_t_key" = some (.ref fK))
    (FL : Fun K "_law_t_less" "_law_t_less" sLess fL fdL) (gL : mg "_law_t_less" = some (.ref fL)) (FP : Fun K "_law_t_places" "_law_t_places" sPlaces2 fP fdP) (gP : mg "_law_t_places" = some (.ref fP)) (FJ : Fun K "_law_joined" "_law_joined" sJoined fJ fdJ) (gJ : mg "_law_joined" = some (.ref fJ))
    (gT : mg "tuple" = none) (gN : mg "len" = none) (gA : mg "all" = none) (gY : mg "any" = none) (gS : mg "sorted" = none) (gLi : mg "list" = none) : FnOk P w K mg base CX0 3 f fd ["rows", "hands", "asked"] (spDueH K) := by
  have GF : FnOk P w K mg base CX0 1 fF fdF ["names"] spFiles := ok_files FF
  have bF := FF.binds (ps := ["names"]) fun _ _ _ _ _ _ us hl => match us, hl with | [_], _ => rfl
  have GT : FnOk P w K mg base CX0 2 fT fdT ["rows", "known", "asked"] (spTells K) := ok_tells FT FK gK gT
  have bT := FT.binds (ps := ["rows", "known", "asked"]) fun _ _ _ _ _ _ us hl => match us, hl with | [_, _, _], _ => rfl
  have GL : FnOk P w K mg base CX0 1 fL fdL ["file", "other"] spLess := ok_less FL gN gA
  have bL := FL.binds (ps := ["file", "other"]) fun _ _ _ _ _ _ us hl => match us, hl with | [_, _], _ => rfl
  have GJ : FnOk P w K mg base CX0 1 fJ fdJ ["hands", "group", "names"] (spJoined K) := ok_joined FJ gY
  have bJ := FJ.binds (ps := ["hands", "group", "names"]) fun _ _ _ _ _ _ us hl => match us, hl with | [_, _, _], _ => rfl
  refine F.ok scDue (fun vs H Q E h => by obtain ⟨r, d, as, ns, hn, ps, ls, x, tbl, e, _⟩ := h; rw [e]; rfl) fun cdv A outer s H vs Q E hr hsp => ?_
  obtain ⟨r, d, as, ns, hn, pds, ls, x, tbl, rfl, orr, D0, tne, nnd, I, ok, few, xin, hq⟩ := hsp
  have nd := scDue.nd
  have hu64 := hr.units
  have hu65 : (A.deeper (envOfC "_law_due" (defScope sDue) s.heap.objs.size f cdv)).units + 65 < cLine := by have := hr.un; omega
  obtain ⟨tC, pC, rC⟩ := due_c (f := f) (cdv := cdv) (outer := outer) (H := H) (E := E) FP gP gS hr
  obtain ⟨tB, pB, rB⟩ := due_b (f := f) (cdv := cdv) (outer := outer) (H := H) (E := E) FP gP gN gS hr pC
  refine ⟨_, pss_cons (ps_asg (pe_tup (pa_cons (pe_callTy (call_listD rfl) rfl gLi boot_list' (pa_cons (pe_ix ix_list (pv 0) pe_int (fun _ _ => rfl)) pa_nil)) (pa_cons (pe_callTy (call_listD rfl) rfl gLi boot_list' (pa_cons (pv 1) pa_nil)) pa_nil))) (pg_tup rfl (pgs_cons (pg_name (i := 3) nd rfl (Or.inr rfl)) (pgs_cons (pg_name (i := 4) nd rfl (Or.inr rfl)) pgs_nil))))
    (pss_cons (ps_set (i := 5) nd rfl (Or.inl rfl) (pe_call GF (hr.mono (by decide)) rfl gF FF.kp bF .nil pass0 (pa_cons (pv 4) pa_nil)))
    (pss_cons (ps_set (i := 6) nd rfl (Or.inr rfl) (pe_lc (own := [("group", 10)]) (g := gName 10) (te := tVar 10) rfl nd (pi_list (pv 5)) (blkOk_by (N := NDu) (sc := defScope sDue) (by decide +kernel)) (fun _ _ _ _ _ => pg_name (i := 10) nd rfl (Or.inl rfl))
      (fun _ _ _ _ _ => pts_one (pt_val (pe_call GT hr rfl gTl FT.kp bT .nil pass0 (pa_cons (pv 0) (pa_cons (pe_call GJ (hr.mono (by decide)) rfl gJ FJ.kp bJ .nil pass0 (pa_cons (pv 1) (pa_cons (pv 10) (pa_cons (pv 3) pa_nil)))) (pa_cons (pv 2) pa_nil)))))) (fun _ _ _ _ _ => pv 10)))
    (pss_cons (ps_set (i := 7) nd rfl (Or.inr rfl) (pe_lc (own := [("group", 10)]) (g := gName 10) (te := tVar 10) (tt := tTest (tOp (rNotInD K) (tVar 10) (tVar 6))) rfl nd (pi_list (pv 5)) (blkOk_by (N := NDu) (sc := defScope sDue) (by decide +kernel)) (fun _ _ _ _ _ => pg_name (i := 10) nd rfl (Or.inl rfl))
      (fun _ _ _ _ _ => pts_one (pt_cmpR (r := rNotInD K) (op_notInD hu65) (pv 10) (pv 6) rfl)) (fun _ _ _ _ _ => pv 10)))
    (pss_cons (ps_setLc (i := 8) (own := [("group", 10)]) (g := gName 10) (te := tVar 10) (tt := tAnyL K 6 11 10) rfl nd rfl rfl (sw_true rfl rfl rfl rfl) (pi_list (pv 6)) (blkOk_by (N := NDu) (sc := defScope sDue) (by decide +kernel)) (fun _ _ _ _ _ => pg_name (i := 10) nd rfl (Or.inr rfl))
      (fun _ _ _ _ _ => pts_one (pt_not (pt_val (pe_callB (r := rAny K) (cr_any rfl) rfl gY boot_any' (pa_cons (pe_lc (own := [("other", 11)]) (tt := tYes) (g := gName 11) (te := tCall spLess [] E0 (tCons (tVar 11) (tCons (tVar 10) tNil))) rfl nd (pi_list (pv 6)) (blkOk_by (N := NDu) (sc := scD4) (by decide +kernel)) (fun _ _ _ _ _ => pg_name (i := 11) nd rfl (Or.inl rfl)) (fun _ _ _ _ _ => pts_nil)
        (fun _ _ _ _ _ => pe_call GL (hr.mono (by decide)) rfl gL FL.kp bL .nil pass0 (pa_cons (pv 11) (pa_cons (pv 10) pa_nil)))) pa_nil))))) (fun _ _ _ _ _ => pv 10))
    (pss_cons (ps_setLc (i := 9) (own := [("group", 10)]) (g := gName 10) (te := tVar 10) (tt := tAnyL K 7 10 11) rfl nd rfl rfl (sw_true rfl rfl rfl rfl) (pi_list (pv 7)) (blkOk_by (N := NDu) (sc := defScope sDue) (by decide +kernel)) (fun _ _ _ _ _ => pg_name (i := 10) nd rfl (Or.inr rfl))
      (fun _ _ _ _ _ => pts_one (pt_not (pt_val (pe_callB (r := rAny K) (cr_any rfl) rfl gY boot_any' (pa_cons (pe_lc (own := [("other", 11)]) (tt := tYes) (g := gName 11) (te := tCall spLess [] E0 (tCons (tVar 10) (tCons (tVar 11) tNil))) rfl nd (pi_list (pv 7)) (blkOk_by (N := NDu) (sc := scD5) (by decide +kernel)) (fun _ _ _ _ _ => pg_name (i := 11) nd rfl (Or.inl rfl)) (fun _ _ _ _ _ => pts_nil)
        (fun _ _ _ _ _ => pe_call GL (hr.mono (by decide)) rfl gL FL.kp bL .nil pass0 (pa_cons (pv 10) (pa_cons (pv 11) pa_nil)))) pa_nil))))) (fun _ _ _ _ _ => pv 10)) pB))))), ?_⟩
  have lfs : (filesL hn).length ≤ 512 := by
    rw [files_len]
    exact Nat.pow_le_pow_right (n := 2) (by decide) few
  have fok : ∀ l ∈ filesL hn, l.length < 1000 ∧ ∀ y ∈ l, y ∈ hn := fun l hl => ⟨by have := files_short hn l hl; omega, files_sub hn l hl⟩
  have sok : ∀ l ∈ filesL hn, ∀ y ∈ l, PyData.strOk y = true := fun l hl y hy => nm_strOk (ok.nok y ((fok l hl).2 y hy))
  have pos : 0 < tbl.length := List.length_pos_iff.mpr tne
  have las : as.length = tbl.length := Paired.length D0
  obtain ⟨a0, ea0⟩ : ∃ a0, as[0]? = some a0 := ⟨as[0]'(by omega), List.getElem?_eq_getElem _⟩
  obtain ⟨vs0, ev0, oa0, lv0⟩ := paired_get D0 ea0
  have at0' : atI (as.map V.ref) ((0 : Nat) : Int) = some (.ref a0) := atI_nat (by rw [List.getElem?_map, ea0]; rfl)
  have ekeys : ((dk ns vs0).map fun kv => kV kv.1) = ns.map V.str := by
    have z := congrArg (List.map kV) (dk_keys lv0.symm)
    rw [List.map_map, List.map_map] at z
    exact z
  refine ⟨_, rfl, _, _, _, _, rfl, rfl, SqL.of orr, at0', a0, _, rfl, .inl oa0, fun n nn => ?_⟩
  rw [ekeys]
  have kn := same_new (o := .lst (ns.map V.str)) nn
  have on : upd H n (.lst (ns.map V.str)) n = some (.lst (ns.map V.str)) := upd_same
  generalize upd H n (.lst (ns.map V.str)) = Ha at kn on
  refine ⟨_, rfl, d, _, rfl, rd_same I.o kn, fun a na => ?_⟩
  rw [hv_keysV I.ln]
  have ka := same_new (o := .lst (hn.map V.str)) na
  have oa : upd Ha a (.lst (hn.map V.str)) a = some (.lst (hn.map V.str)) := upd_same
  generalize upd Ha a (.lst (hn.map V.str)) = Hb at ka oa
  refine ⟨by rw [sizeLine_eq]; show 2 ≤ _; omega, fun tp ntp => ?_⟩
  have kt := same_new (o := .tup [.ref n, .ref a]) ntp
  have otp : upd Hb tp (.tup [.ref n, .ref a]) tp = some (.tup [.ref n, .ref a]) := upd_same
  generalize upd Hb tp (.tup [.ref n, .ref a]) = H0 at kt otp
  have k0 := (kn.trans ka).trans kt
  have on := kt _ _ (ka _ _ on)
  have oa := kt _ _ oa
  refine ⟨tp, _, rfl, SqT.of otp, rfl, _, _, rfl, _, _, rfl, rfl, ?_⟩
  have orr := k0 _ _ orr
  have D0 := D0.same k0
  have I := I.same k0
  refine ⟨_, rfl, a, hn, rfl, oa, by omega, fun H1 q ps nq oq files k1 frF => ?_⟩
  have files : FilesAt H1 ps (filesL hn) := files
  -- telling
  refine ⟨_, rfl, q, rfl, ⟨_, SqL.of oq⟩, lc_filterF oq files (by omega) (fun l => decide (knowT ns hn ls tbl x l)) ?_ ?_⟩
  · intro p l H2 Cn Nn lin op s2 yes no
    have k02 := k1.trans s2
    refine ⟨rfl, ?_⟩
    refine ⟨_, rfl, _, rfl, _, rfl, _, rfl, d, p, n, ns, hn, l, pds, ls, rfl, I.same k02, op, k02 _ _ on, (fok l lin).2, (fok l lin).1, ok.sh, fun H2' qj nj oj kj => ?_⟩
    have k03 := k02.trans kj
    refine ⟨_, rfl, r, qj, as, ns, joinG ns hn ls l, x, tbl, rfl, ⟨k03 _ _ orr, (D0.same k03).rd, .inl oj, join_sub, nodup_short (join_nd nnd) join_sub ok.sh, nnd⟩, xin, fun H3 s3 => ⟨_, rfl, ?_⟩⟩
    cases c : decide (knowT ns hn ls tbl x l) with
    | true => exact ⟨_, rfl, yes c H3 (kj.trans s3)⟩
    | false => exact no c H3 (kj.trans s3)
  intro H2 qT psT nqT oqT filesT k2 inT
  have hT : ∀ l ∈ telG (knowT ns hn ls tbl x) hn, l ∈ filesL hn := fun l hl => (List.mem_filter.mp hl).1
  have lT : (telG (knowT ns hn ls tbl x) hn).length ≤ 512 := Nat.le_trans (List.length_filter_le _ _) lfs
  have filesT : FilesAt H2 psT (telG (knowT ns hn ls tbl x) hn) := filesT
  -- silent
  refine ⟨_, rfl, q, rfl, ⟨_, SqL.of (k2 _ _ oq)⟩, lc_filterF (k2 _ _ oq) (files.same k2) (by omega) (fun l => !decide (l ∈ telG (knowT ns hn ls tbl x) hn)) ?_ ?_⟩
  · intro p l H3 Cn Nn lin op s3 yes no
    refine ⟨rfl, ?_⟩
    refine ⟨_, rfl, _, rfl, _, _, .lst (SqL.of op) (dp_strs5 l), .lst (SqL.of (s3 _ _ oqT)) (dpD_files (filesT.same s3)), fileD_shaped (sok l lin), filesD_shaped (fun m hm => sok m (hT m hm)), _, rfl, ?_⟩
    rw [any_files]
    cases c : !decide (l ∈ telG (knowT ns hn ls tbl x) hn) with
    | true => exact ⟨_, rfl, yes c H3 (Same.refl _)⟩
    | false => exact no c H3 (Same.refl _)
  intro H3 qS psS nqS oqS filesS k3 inS
  have hS : ∀ l ∈ silG (knowT ns hn ls tbl x) hn, l ∈ filesL hn := fun l hl => (List.mem_filter.mp hl).1
  have lS : (silG (knowT ns hn ls tbl x) hn).length ≤ 512 := Nat.le_trans (List.length_filter_le _ _) lfs
  have filesS : FilesAt H3 psS (silG (knowT ns hn ls tbl x) hn) := filesS
  have oqT3 := k3 _ _ oqT
  have filesT3 := filesT.same k3
  have any_step : ∀ (rr : Addr) (pp : List Addr) (ff : List (List Str)) (H0 : Hp), H0 rr = some (.lst (pp.map V.ref)) → FilesAt H0 pp ff → pp.length = ff.length := fun _ _ _ _ _ h => Paired.length h
  -- the least
  refine ⟨_, rfl, qT, rfl, ⟨_, SqL.of oqT3⟩, lc_filterF oqT3 filesT3 (by omega) (fun l => !((telG (knowT ns hn ls tbl x) hn).any fun o => lessF o l)) ?_ ?_⟩
  · intro p l H4 Cn Nn lin op s4 yes no
    have lpT : psT.length = (telG (knowT ns hn ls tbl x) hn).length := Paired.length filesT
    refine ⟨rfl, ?_⟩
    refine ⟨_, rfl, qT, rfl, ⟨_, SqL.of (s4 _ _ oqT3)⟩, lc_gen (((telG (knowT ns hn ls tbl x) hn).map fun o => lessF o l).map V.bl) (by rw [List.length_map, List.length_map]; omega) (fun i H' s lt => ⟨_, _, SqL.of (s _ _ (s4 _ _ oqT3)), List.getElem?_eq_getElem (by rw [List.length_map]; rw [List.length_map, List.length_map] at lt; omega)⟩) (fun H' s => ⟨_, SqL.of (s _ _ (s4 _ _ oqT3)), by rw [List.length_map, List.length_map, List.length_map]; omega⟩) ?_ ?_⟩
    · rintro i v y H5 H6 Cm Nm ey s5 ⟨rfl, ev⟩ yes2
      have ev := ev _ (SqL.of (s5 _ _ (s4 _ _ oqT3)))
      rw [List.getElem?_map] at ev
      obtain ⟨p2, ep, rfl⟩ := Option.map_eq_some_iff.mp ev
      obtain ⟨o, eo, oo⟩ := paired_get ((filesT3.same s4).same s5) ep
      rw [List.getElem?_map, List.getElem?_map, eo] at ey
      obtain rfl : V.bl (lessF o l) = y := Option.some.inj ey
      refine ⟨rfl, ?_⟩
      exact ⟨_, rfl, _, rfl, p2, p, o, l, rfl, oo, s5 _ _ op, (fok o (hT o (List.mem_of_getElem? eo))).1, fun H' s' => yes2 H' s'⟩
    · intro H5 D nD oD s5
      refine ⟨D, _, rfl, SqL.of oD, _, rfl, ?_⟩
      have e : ((telG (knowT ns hn ls tbl x) hn).map fun o => lessF o l).any id = (telG (knowT ns hn ls tbl x) hn).any fun o => lessF o l := by rw [List.any_map]; rfl
      rw [e]
      cases c : (telG (knowT ns hn ls tbl x) hn).any fun o => lessF o l with
      | true => exact no (by rw [c]; rfl) H5 s5
      | false => exact ⟨_, rfl, yes (by rw [c]; rfl) H5 s5⟩
  intro H4 qL psL nqL oqL filesL4 k4 inL
  have filesL4 : FilesAt H4 psL (leastG (knowT ns hn ls tbl x) hn) := filesL4
  have hL : ∀ l ∈ leastG (knowT ns hn ls tbl x) hn, l ∈ filesL hn := fun l hl => hT l (List.mem_filter.mp hl).1
  have lL : (leastG (knowT ns hn ls tbl x) hn).length ≤ 512 := Nat.le_trans (List.length_filter_le _ _) lT
  have oqS4 := k4 _ _ oqS
  have filesS4 := filesS.same k4
  -- the most
  refine ⟨_, rfl, qS, rfl, ⟨_, SqL.of oqS4⟩, lc_filterF oqS4 filesS4 (by omega) (fun l => !((silG (knowT ns hn ls tbl x) hn).any fun o => lessF l o)) ?_ ?_⟩
  · intro p l H5 Cn Nn lin op s4 yes no
    have lpS : psS.length = (silG (knowT ns hn ls tbl x) hn).length := Paired.length filesS
    refine ⟨rfl, ?_⟩
    refine ⟨_, rfl, qS, rfl, ⟨_, SqL.of (s4 _ _ oqS4)⟩, lc_gen (((silG (knowT ns hn ls tbl x) hn).map fun o => lessF l o).map V.bl) (by rw [List.length_map, List.length_map]; omega) (fun i H' s lt => ⟨_, _, SqL.of (s _ _ (s4 _ _ oqS4)), List.getElem?_eq_getElem (by rw [List.length_map]; rw [List.length_map, List.length_map] at lt; omega)⟩) (fun H' s => ⟨_, SqL.of (s _ _ (s4 _ _ oqS4)), by rw [List.length_map, List.length_map, List.length_map]; omega⟩) ?_ ?_⟩
    · rintro i v y H6 H7 Cm Nm ey s5 ⟨rfl, ev⟩ yes2
      have ev := ev _ (SqL.of (s5 _ _ (s4 _ _ oqS4)))
      rw [List.getElem?_map] at ev
      obtain ⟨p2, ep, rfl⟩ := Option.map_eq_some_iff.mp ev
      obtain ⟨o, eo, oo⟩ := paired_get ((filesS4.same s4).same s5) ep
      rw [List.getElem?_map, List.getElem?_map, eo] at ey
      obtain rfl : V.bl (lessF l o) = y := Option.some.inj ey
      refine ⟨rfl, ?_⟩
      exact ⟨_, rfl, _, rfl, p, p2, l, o, rfl, s5 _ _ op, oo, (fok l (hS l lin)).1, fun H' s' => yes2 H' s'⟩
    · intro H6 D nD oD s5
      refine ⟨D, _, rfl, SqL.of oD, _, rfl, ?_⟩
      have e : ((silG (knowT ns hn ls tbl x) hn).map fun o => lessF l o).any id = (silG (knowT ns hn ls tbl x) hn).any fun o => lessF l o := by rw [List.any_map]; rfl
      rw [e]
      cases c : (silG (knowT ns hn ls tbl x) hn).any fun o => lessF l o with
      | true => exact no (by rw [c]; rfl) H6 s5
      | false => exact ⟨_, rfl, yes (by rw [c]; rfl) H6 s5⟩
  intro H5 qM psM nqM oqM filesM k5 inM
  have filesM : FilesAt H5 psM (mostG (knowT ns hn ls tbl x) hn) := filesM
  have hM : ∀ l ∈ mostG (knowT ns hn ls tbl x) hn, l ∈ filesL hn := fun l hl => hS l (List.mem_filter.mp hl).1
  have lM : (mostG (knowT ns hn ls tbl x) hn).length ≤ 512 := Nat.le_trans (List.length_filter_le _ _) lS
  have lpM : psM.length = (mostG (knowT ns hn ls tbl x) hn).length := Paired.length filesM
  have k05 := (((k1.trans k2).trans k3).trans k4).trans k5
  have oa5 := k05 _ _ oa
  refine rB _ H5 _ _ _ _ _ _ _ _ _ _ _ _ _ a qL hn psL _ oa5 (k5 _ _ oqL) (filesL4.same k5) (fun l hl => fok l (hL l hl)) (by omega) fun H6 q6 qs6 n6 o6 f6 k6 in6 => ?_
  refine rC _ H6 _ _ _ _ _ _ _ _ _ _ _ _ a qM q6 hn psM _ (k6 _ _ oa5) (k6 _ _ oqM) (filesM.same k6) (fun l hl => fok l (hM l hl)) (by omega) fun H7 t7 q7 qs7 n7 o7 oq7 f7 k7 => ?_
  exact hq H7 t7 q6 q7 qs6 qs7 (((k0.trans k05).trans k6).free n7) o7 (k7 _ _ o6) oq7 (f6.same k7) f7 (((k0.trans k05).trans k6).trans k7) ((k0.trans k05).free n6) (fun p hp => k0.free (frF p (inT p (inL p (in6 p hp)))))
end
end L2.TB
namespace L2.TB
open PySem PySem.Spec PyProof.Rows
/-! what may be told, by the law -/
theorem RRows.lock {H : Hp} {ns : List Str} {as : List Addr} {tbl : List (List Int)} {a0 : Addr} {od : Obj} {u : HO} (r : DRows H ns as tbl) (o : H a0 = some u) : RRows (upd H a0 (.frz od u)) ns as tbl := Paired.mapP r fun a vs h => ⟨by
  by_cases e : a = a0
  · subst e
    rw [h.1] at o
    obtain rfl := Option.some.inj o
    exact .inr ⟨od, upd_same⟩
  · exact .inl (by rw [upd_ne e]; exact h.1), h.2⟩
/-- all but one thing stays -/
theorem butD_rd {d : Addr} {H H' : Hp} {b : Addr} {u : HO} (s : ButD d H H') (n : b ≠ d) (h : Rd H b u) : Rd H' b u := h.imp (s _ _ n) fun ⟨o, e⟩ => ⟨o, s _ _ n e⟩
def spDueTell (K : PySem.W.Frag) : Sp := fun vs H Q _ => ∃ (r d p : Addr) (as : List Addr) (ns hn : List Str) (ps : List Addr) (ls : List (List Str)) (h x : Str) (tbl : List (List Int)), vs = [.ref r, .ref d, .str h, .str x] ∧ H r = some (.lst (as.map V.ref)) ∧ DRows H ns as tbl ∧ tbl ≠ [] ∧ ns.Nodup ∧ Hs K H d hn ps ls ∧ HOk2 ns hn ls ∧ h ∈ hn ∧ ps[idx hn h]? = some p ∧ H p = some (.lst ((hl hn ls h).map V.str)) ∧ x ∈ ns ∧
  ∀ H' q, H q = none → H' q = some (.lst ((mayT ns tbl (hl hn ls h) x).map V.str)) → Same H H' → Q (.ref q) H'
abbrev NDt : List Str := ["rows", "hands", "hand", "asked", "found", "own", "name", "more"]
theorem scDt : FnScope NDt ["rows", "hands", "hand", "asked"] (defScope sDueTell) := ⟨rfl, rfl, rfl, by decide +kernel, rfl, by decide +kernel, by decide +kernel⟩
/-- what is known if one more is told -/
def moreS (has : List Str) (y : Str) : List Str := has ++ if y ∈ has then [] else [y]
def mayL (ns : List Str) (tbl : List (List Int)) (has : List Str) (x : Str) (ys : List Str) : List Str := ys.filter fun y => !decide (Tells ns tbl has x) && !decide (Tells ns tbl (moreS has y) x)
theorem may_eq (ns : List Str) (tbl : List (List Int)) (has : List Str) (x : Str) : mayL ns tbl has x ns = mayT ns tbl has x := by
  unfold mayL mayT
  by_cases c : Tells ns tbl has x
  · rw [if_pos c, decide_eq_true c]
    exact List.filter_eq_nil_iff.mpr fun y _ => by simp
  · rw [if_neg c, decide_eq_false c]
    refine List.filter_congr fun y hy => ?_
    unfold moreS
    by_cases m : y ∈ has
    · rw [if_pos m, List.append_nil, decide_eq_false c, decide_eq_true m]; rfl
    · rw [if_neg m, decide_eq_false m]; rfl
section
variable {P : Program} {w : World} {K : PySem.W.Frag} {mg : Str → Option Value} {base : Heap} {f fT fK : Addr} {fd fdT fdK : FuncData}
theorem ok_dueTell (F : Fun K "_law_due_tell" "_law_due_tell" sDueTell f fd) (FT : Fun K "_law_t_tells" "_law_t_tells" sTells fT fdT) (gTl : mg "_law_t_tells" = some (.ref fT)) (FK : Fun K "_law_t_key" "_law_t_key" sKey fK fdK) (gK : mg "_law_t_key" = some (.ref fK))
    (gT : mg "tuple" = none) (gI : mg "int" = none) : FnOk P w K mg base CX0 3 f fd ["rows", "hands", "hand", "asked"] (spDueTell K) := by
  have GT : FnOk P w K mg base CX0 2 fT fdT ["rows", "known", "asked"] (spTells K) := ok_tells FT FK gK gT
  have bT := FT.binds (ps := ["rows", "known", "asked"]) fun _ _ _ _ _ _ us hl => match us, hl with | [_, _, _], _ => rfl
  refine F.ok scDt (fun vs H Q E h => by obtain ⟨r, d, p, as, ns, hn, ps, ls, h, x, tbl, e, _⟩ := h; rw [e]; rfl) fun cdv A outer s H vs Q E hr hsp => ?_
  obtain ⟨r, d, p, as, ns, hn, ps, ls, h, x, tbl, rfl, orr, D0, tne, nnd, I, ok, hin, ep, op, xin, hq⟩ := hsp
  have nd := scDt.nd
  have hu := hu_of hr
  refine ⟨_, pss_cons (ps_par (i := 4) (j := 5) rfl nd rfl rfl (by decide) rfl rfl (pa_cons (pe_lst pa_nil) (pa_cons (pe_dget hu (pv 1) (pv 2) (fun _ _ => rfl)) pa_nil)) (by rfl))
    (pss_cons (ps_lock (ps_for PassesOwn.never rfl (pi_keys (pe_ix ix_list (pv 0) pe_int (fun _ _ => rfl))) (pg_name (i := 6) nd rfl (Or.inl rfl))
      (pss_cons (ps_set (i := 7) nd rfl (Or.inl rfl) (pe_op op_cat (pv 5) (pe_op op_rep (pe_lst (pa_cons (pv 6) pa_nil)) (pe_callTy call_int1 rfl gI boot_int (pa_cons (pe_cmpR (r := rIn K true) op_notIn_seq (pv 6) (pv 5) rfl) pa_nil)))))
      (pss_one (ps_if (PW.pt (pw_and (pt_not (pt_val (pe_call GT hr rfl gTl FT.kp bT .nil pass0 (pa_cons (pv 0) (pa_cons (pv 5) (pa_cons (pv 3) pa_nil)))))) (pw_and1 (pt_not (pt_val (pe_call GT hr rfl gTl FT.kp bT .nil pass0 (pa_cons (pv 0) (pa_cons (pv 7) (pa_cons (pv 3) pa_nil)))))))))
        (pss_one (ps_expr (pe_bm PySem.F.plainAttrs_list PySem.F.slot_list_append PySem.F.type_list_append mt_append (pv 4) (pa_cons (pv 6) pa_nil)))) pss_nil)))))
    (pss_one (ps_ret (pv 4)))), ?_⟩
  have hnd := hl_nd ok h
  have hsub : ∀ y ∈ hl hn ls h, y ∈ ns := ListA.hlsub ok h
  have hsh := nodup_short hnd hsub ok.sh
  have pos : 0 < tbl.length := List.length_pos_iff.mpr tne
  have las : as.length = tbl.length := Paired.length D0
  obtain ⟨a0, ea0⟩ : ∃ a0, as[0]? = some a0 := ⟨as[0]'(by omega), List.getElem?_eq_getElem _⟩
  obtain ⟨vs0, ev0, oa0, lv0⟩ := paired_get D0 ea0
  have at0' : atI (as.map V.ref) ((0 : Nat) : Int) = some (.ref a0) := atI_nat (by rw [List.getElem?_map, ea0]; rfl)
  refine ⟨Nat.zero_le _, fun fo nf => ?_⟩
  have kf := same_new (o := .lst []) nf
  have of : upd H fo (.lst []) fo = some (.lst []) := upd_same
  generalize upd H fo (.lst []) = H1 at kf of
  obtain ⟨p', w1, _, dg, _⟩ := (I.same kf).get hin
  obtain rfl : p = p' := Option.some.inj (ep.symm.trans w1)
  refine ⟨_, rfl, _, rfl, d, _, rfl, dg, ?_⟩
  refine ⟨_, _, rfl, ?_⟩
  have oa1 := kf _ _ oa0
  have ldk : (dk ns vs0).length = ns.length := by
    unfold dk
    rw [List.length_map, List.length_zip]; omega
  refine ⟨a0, _, oa1, trivial, fun od => ?_⟩
  have fa : fo ≠ a0 := fun z => by rw [z, oa1] at of; cases of
  have of2 : upd H1 a0 (.frz od (.dK (dk ns vs0))) fo = some (.lst []) := by rw [upd_ne fa]; exact of
  have R2 : RRows (upd H1 a0 (.frz od (.dK (dk ns vs0)))) ns as tbl := RRows.lock (D0.same kf) oa1
  have oa2 : upd H1 a0 (.frz od (.dK (dk ns vs0))) a0 = some (.frz od (.dK (dk ns vs0))) := upd_same
  have out2 : ∀ b o, b ≠ a0 → H1 b = some o → upd H1 a0 (.frz od (.dK (dk ns vs0))) b = some o := fun b o n e => by rw [upd_ne n]; exact e
  have ra : r ≠ a0 := fun z => by rw [z, oa0] at orr; cases orr
  have pa : p ≠ a0 := fun z => by rw [z, oa0] at op; cases op
  have rf : r ≠ fo := ne_of_none orr nf
  have pf : p ≠ fo := ne_of_none op nf
  have asf : ∀ a ∈ as, a ≠ fo := fun a ha z => by
    obtain ⟨i, hi⟩ := List.mem_iff_getElem?.mp ha
    obtain ⟨v, _, oa, _⟩ := paired_get D0 hi
    rw [z, nf] at oa; cases oa
  have or2 := out2 _ _ ra (kf _ _ orr)
  have op2 := out2 _ _ pa (kf _ _ op)
  have back : ∀ H', ButD fo (upd H1 a0 (.frz od (.dK (dk ns vs0)))) H' → H' a0 = some (.frz od (.dK (dk ns vs0))) ∧ Same H (upd H' a0 (.dK (dk ns vs0))) := fun H' s => ⟨s _ _ (Ne.symm fa) oa2, fun b o e => by
    by_cases hb : b = a0
    · subst hb
      rw [oa0] at e
      rw [upd_same]; exact e
    · rw [upd_ne hb]
      exact s _ _ (ne_of_none e nf) (out2 _ _ hb (kf _ _ e))⟩
  generalize upd H1 a0 (.frz od (.dK (dk ns vs0))) = H2 at of2 R2 oa2 or2 op2 back
  have rows' : ∀ H', ButD fo H2 H' → RRows H' ns as tbl := fun H' s => by
    have z : ∀ {as : List Addr} {tbl : List (List Int)}, (∀ a ∈ as, a ≠ fo) → RRows H2 ns as tbl → RRows H' ns as tbl := by
      intro as tbl hs R
      induction R with
      | nil => exact .nil
      | cons q _ ih => exact .cons ⟨butD_rd s (hs _ List.mem_cons_self) q.1, q.2⟩ (ih fun a ha => hs a (List.mem_cons_of_mem _ ha))
    exact z asf R2
  refine ⟨_, rfl, _, _, _, _, rfl, rfl, SqL.of or2, at0', a0, od, rfl, .inl ⟨_, oa2, for_it walk_keys (fun i σ H' => H' fo = some (.lst ((mayL ns tbl (hl hn ls h) x (ns.take i)).map V.str)) ∧ ButD fo H2 H' ∧ ∃ s6 s7, σ = [some (.ref r), some (.ref d), some (.str h), some (.str x), some (.ref fo), some (.ref p), s6, s7]) ?_ ?_ ?_ ?_⟩⟩
  · exact ⟨of2, fun b o _ e => e, _, _, rfl⟩
  · rintro i σ H' _ ⟨_, s, _⟩
    exact s _ _ (Ne.symm fa) oa2
  · rintro i v σ H3x H3 lt ⟨o3, s3, s6, s7, rfl⟩ ⟨rfl, k, v', ek, rfl⟩
    obtain ⟨y, m, rfl, rfl, ey, _⟩ := dk_at ek nnd lv0.symm
    have yin : y ∈ ns := List.mem_of_getElem? ey
    have op3 := s3 _ _ pf op2
    have or3 := s3 _ _ rf or2
    have R3 := rows' _ s3
    have etk : ns.take (i + 1) = ns.take i ++ [y] := by rw [List.take_succ, ey]; rfl
    have stepB : ∀ {H' : Hp}, Same H3 H' → ButD fo H2 H' := fun s b o n e => s _ _ (s3 _ _ n e)
    have fin : ∀ H', Same H3 H' → (!decide (Tells ns tbl (hl hn ls h) x) && !decide (Tells ns tbl (moreS (hl hn ls h) y) x)) = false → H' fo = some (.lst ((mayL ns tbl (hl hn ls h) x (ns.take (i + 1))).map V.str)) := fun H' s c => by
      rw [s _ _ o3]
      unfold mayL
      rw [etk, List.filter_append, List.filter_cons, c]
      simp
    rw [show kV (Sum.inr y) = V.str y from rfl]
    refine ⟨_, rfl, _, rfl, ⟨by rw [sizeLine_eq]; show 1 ≤ _; omega, fun m1 n1 => ?_⟩⟩
    have k1 := same_new (o := .lst [.str y]) n1
    have om1 : upd H3 m1 (.lst [.str y]) m1 = some (.lst [.str y]) := upd_same
    generalize upd H3 m1 (.lst [.str y]) = H4 at k1 om1
    refine ⟨_, rfl, _, rfl, p, _, rfl, .inl (SqL.of (k1 _ _ op3)), rfl, flat_strs _, ?_⟩
    rw [inV_strs]
    refine .inr ⟨_, rfl, m1, _, _, rfl, rfl, om1, ?_, ?_, ?_, fun m2 n2 => ?_⟩
    · generalize decide (y ∈ hl hn ls h) = b; cases b <;> decide
    · generalize decide (y ∈ hl hn ls h) = b; cases b <;> decide
    · rw [sizeLine_eq]
      have : ((if (if true = true then !decide (y ∈ hl hn ls h) else decide (y ∈ hl hn ls h)) = true then (1 : Int) else 0)).toNat ≤ 1 := by generalize decide (y ∈ hl hn ls h) = b; cases b <;> decide
      show 1 * _ ≤ _
      omega
    have e2 : (List.replicate ((if (if true = true then !decide (y ∈ hl hn ls h) else decide (y ∈ hl hn ls h)) = true then (1 : Int) else 0)).toNat [V.str y]).flatten = (if y ∈ hl hn ls h then [] else [y]).map V.str := by
      by_cases c : y ∈ hl hn ls h
      · rw [if_pos c, decide_eq_true c]; rfl
      · rw [if_neg c, decide_eq_false c]; rfl
    rw [e2]
    have k2 := same_new (o := .lst ((if y ∈ hl hn ls h then [] else [y]).map V.str)) n2
    have om2 : upd H4 m2 (.lst ((if y ∈ hl hn ls h then [] else [y]).map V.str)) m2 = some (.lst ((if y ∈ hl hn ls h then [] else [y]).map V.str)) := upd_same
    generalize upd H4 m2 (.lst ((if y ∈ hl hn ls h then [] else [y]).map V.str)) = H5 at k2 om2
    have k35 := k1.trans k2
    refine ⟨p, m2, _, _, rfl, rfl, k35 _ _ op3, om2, ?_, fun m3 n3 => ?_⟩
    · rw [sizeLine_eq, List.length_map, List.length_map]
      split <;> simp <;> omega
    have e3 : (hl hn ls h).map V.str ++ (if y ∈ hl hn ls h then [] else [y]).map V.str = (moreS (hl hn ls h) y).map V.str := by
      unfold moreS
      rw [List.map_append]
    rw [e3]
    have k3 := same_new (o := .lst ((moreS (hl hn ls h) y).map V.str)) n3
    have om3 : upd H5 m3 (.lst ((moreS (hl hn ls h) y).map V.str)) m3 = some (.lst ((moreS (hl hn ls h) y).map V.str)) := upd_same
    generalize upd H5 m3 (.lst ((moreS (hl hn ls h) y).map V.str)) = H6 at k3 om3
    have k36 := k35.trans k3
    have msub : ∀ z ∈ moreS (hl hn ls h) y, z ∈ ns := fun z hz => by
      unfold moreS at hz
      rcases List.mem_append.mp hz with q | q
      · exact hsub z q
      · split at q
        · cases q
        · rw [List.mem_singleton.mp q]; exact yin
    have msh : (moreS (hl hn ls h) y).length < 1001 := by
      unfold moreS
      rw [List.length_append]
      split <;> simp <;> omega
    refine ⟨_, rfl, _, rfl, _, rfl, r, p, as, ns, hl hn ls h, x, tbl, rfl, ⟨k36 _ _ or3, R3.same k36, .inl (k36 _ _ op3), hsub, hsh, nnd⟩, xin, fun H7 k7 => ⟨_, rfl, ?_⟩⟩
    have k37 := k36.trans k7
    cases c1 : decide (Tells ns tbl (hl hn ls h) x) with
    | true => exact iteF (iteF ⟨fin H7 k37 (by rw [c1]; rfl), stepB k37, _, _, rfl⟩)
    | false =>
      refine iteT ⟨_, rfl, _, rfl, _, rfl, r, m3, as, ns, moreS (hl hn ls h) y, x, tbl, rfl, ⟨k37 _ _ or3, R3.same k37, .inl (k7 _ _ om3), msub, ?_, nnd⟩, xin, fun H8 k8 => ⟨_, rfl, ?_⟩⟩
      · exact nodup_short (by
          unfold moreS
          by_cases c : y ∈ hl hn ls h
          · rw [if_pos c, List.append_nil]; exact hnd
          · rw [if_neg c]
            exact List.nodup_append.mpr ⟨hnd, by simp, fun u hu z hz ez => c (by rw [← List.mem_singleton.mp hz, ← ez]; exact hu)⟩) msub ok.sh
      have k38 := k37.trans k8
      cases c2 : decide (Tells ns tbl (moreS (hl hn ls h) y) x) with
      | true => exact iteF ⟨fin H8 k38 (by rw [c1, c2]; rfl), stepB k38, _, _, rfl⟩
      | false =>
        refine iteT ?_
        have o8 := k38 _ _ o3
        have sml : (mayL ns tbl (hl hn ls h) x (ns.take i)).length ≤ ns.length := Nat.le_trans (List.length_filter_le _ _) (by rw [List.length_take]; omega)
        refine ⟨_, rfl, .inl ⟨rfl, _, SqL.of o8⟩, _, rfl, fo, _, _, rfl, rfl, o8, by rw [sizeLine_eq, List.length_map]; have := ok.sh; omega, ?_, ?_, _, _, rfl⟩
        · rw [upd_same]
          unfold mayL
          rw [etk, List.filter_append, List.filter_cons, c1, c2]
          simp
        · intro b o n e
          rw [upd_ne n]
          exact k38 _ _ (s3 _ _ n e)
  · rintro σ H3 ⟨o3, s3, s6, s7, rfl⟩
    obtain ⟨b1, b2⟩ := back H3 s3
    refine ⟨b1, _, rfl, ?_⟩
    have et : ns.take (dk ns vs0).length = ns := by rw [ldk]; exact List.take_length
    rw [et, may_eq] at o3
    exact hq _ fo nf (by rw [upd_ne fa]; exact o3) b2
end
end L2.TB
namespace L2.TB
open PySem PySem.Spec PyProof.Rows
open HF NdefX LamX
/-- a table stays where only the spring moves -/
theorem TabAt.but {H H' : Hp} {C a l ls : Addr} {ns : List Str} {tbl : List (List Int)} {N : Int} (t : TabAt H C a ns tbl) (S : Strm H l ls N) (B : But l ls H H') (nn : ns ≠ []) (tn : tbl ≠ []) : TabAt H' C a ns tbl := by
  obtain ⟨dx, qa, ra, ha, hqa, ps, hra, prs⟩ := t.ex
  obtain ⟨cs, g, k, m, S⟩ := S
  obtain ⟨n0, nr, rfl⟩ := List.exists_cons_of_ne_nil nn
  obtain ⟨t0, tr, rfl⟩ := List.exists_cons_of_ne_nil tn
  cases prs with
  | cons p0 prs =>
    rename_i p ps
    refine ⟨dx, qa, ra, B _ _ ?_ ?_ ha, B _ _ ?_ ?_ hqa, p :: ps, B _ _ ?_ ?_ hra, Paired.mapP (.cons p0 prs) fun q vs h => ⟨B _ _ ?_ ?_ h.1, h.2⟩⟩
    · exact ne_of ha S.o (by intro z; cases z)
    · exact ne_of ha S.c (by intro z; cases z)
    · exact ne_of hqa S.o (by intro z; cases z)
    · refine ne_of hqa S.c (fun z => ?_)
      have z := HO.lst.inj z
      cases cs <;> cases z
    · refine ne_of hra S.o (fun z => ?_)
      have z := HO.lst.inj z
      cases ps <;> cases z
    · refine ne_of hra S.c (fun z => ?_)
      have z := HO.lst.inj z
      cases cs <;> cases z
    · exact ne_of h.1 S.o (by intro z; cases z)
    · exact ne_of h.1 S.c (by intro z; cases z)
theorem strs_shape : ∀ ks : List Str, (∀ k ∈ ks, PyData.strOk k = true) → PyData.canLayAll0 (ks.map PyData.str) = true ∧ PyData.depthAll (ks.map PyData.str) = 0
  | [], _ => ⟨by simp [PyData.canLayAll0], by simp [PyData.depthAll]⟩
  | b :: bs, h => by
    obtain ⟨h1, h2⟩ := strs_shape bs fun k hk => h k (List.mem_cons_of_mem _ hk)
    have h3 := h b List.mem_cons_self
    exact ⟨by simp [PyData.canLayAll0, PyData.canLay0, h1, h3], by simp [PyData.depthAll, PyData.depth, h2]⟩
theorem strs_shaped (ks : List Str) (h : ∀ k ∈ ks, PyData.strOk k = true) : SeqAt.shaped (.list (ks.map PyData.str)) = true := by
  obtain ⟨h1, h2⟩ := strs_shape ks h
  unfold SeqAt.shaped
  simp [PyData.canLay0, PyData.depth, h1, h2]
theorem strs_eqvAll : ∀ a b : List Str, PyData.eqvAll (a.map PyData.str) (b.map PyData.str) = decide (a = b)
  | [], [] => by simp [PyData.eqvAll]
  | [], _ :: _ => by simp [PyData.eqvAll]
  | _ :: _, [] => by simp [PyData.eqvAll]
  | x :: a, y :: b => by
    rw [List.map_cons, List.map_cons, PyData.eqvAll, strs_eqvAll a b, PyData.eqv]
    by_cases h1 : x = y
    · by_cases h2 : a = b <;> simp [h1, h2]
    · simp [h1]
theorem strs_eqv (a b : List Str) : PyData.eqv (.list (a.map PyData.str)) (.list (b.map PyData.str)) = decide (a = b) := by rw [PyData.eqv, strs_eqvAll]
theorem dp_strs {K : PySem.W.Frag} {H : Hp} : ∀ cs : List Str, DpAll K H (cs.map V.str) (cs.map PyData.str)
  | [] => .nil
  | c :: cs => .cons (.str c) (dp_strs cs)
theorem dp_list {K : PySem.W.Frag} {H : Hp} {a : Addr} {cs : List Str} (h : H a = some (.lst (cs.map V.str))) : Dp K H (.ref a) (.list (cs.map PyData.str)) := .lst (SqL.of h) (dp_strs cs)
theorem strs_of : ∀ ys : List V, (∀ y ∈ ys, ∃ x, y = V.str x) → ∃ ks : List Str, ys = ks.map V.str
  | [], _ => ⟨[], rfl⟩
  | y :: ys, h => by
    obtain ⟨x, rfl⟩ := h y List.mem_cons_self
    obtain ⟨ks, rfl⟩ := strs_of ys fun z hz => h z (List.mem_cons_of_mem _ hz)
    exact ⟨x :: ks, rfl⟩
theorem lst_tbl {ys : List V} (ps : Array Value) : HO.lst ys ≠ .tbl ps := fun z => by cases z
theorem FilesAt.ext {H H' : Hp} {ps : List Addr} {fs : List (List Str)} (h : FilesAt H ps fs) (s : ExtN H H') : FilesAt H' ps fs := Paired.mapP h fun p l e => s _ _ e lst_tbl
theorem DRows.ext {H H' : Hp} {ns : List Str} {as : List Addr} {tbl : List (List Int)} (h : DRows H ns as tbl) (s : ExtN H H') : DRows H' ns as tbl := Paired.mapP h fun p l e => ⟨s _ _ e.1 (fun _ z => by cases z), e.2⟩
theorem SqA.ext {K : PySem.W.Frag} {H H' : Hp} {a : Addr} {xs : List V} (h : SqA K H a xs) (s : ExtN H H') : SqA K H' a xs := h.imp (fun e => s _ _ e (fun _ z => by cases z)) (fun e => s _ _ e (fun _ z => by cases z))
theorem Strm.ext {H H' : Hp} {l ls : Addr} {N : Int} (h : Strm H l ls N) (s : ExtN H H') : Strm H' l ls N := by
  obtain ⟨cs, g, k, m, S⟩ := h
  exact ⟨cs, g, k, m, s _ _ S.o lst_tbl, s _ _ S.c lst_tbl, S.ne, S.g0, S.k0, S.k1, S.m0, S.m1, S.sz⟩
theorem tabs_but {T : List NTab} {H H' : Hp} {l ls : Addr} {N : Int} (h : TabsN T H) (S : Strm H l ls N) (B : But l ls H H') : TabsN T H' := fun p hp => by
  obtain ⟨cs, g, k, m, S⟩ := S
  obtain ⟨pa, h1, h2, h3⟩ := h p hp
  refine ⟨pa, B _ _ (fun z => by rw [z, S.o] at h1; cases h1) (fun z => by rw [z, S.c] at h1; cases h1) h1, h2, fun pos cv hc => ?_⟩
  obtain ⟨c, e1, e2⟩ := h3 pos cv hc
  exact ⟨c, e1, B _ _ (fun z => by rw [z, S.o] at e2; unfold CodeO at e2; cases e2) (fun z => by rw [z, S.c] at e2; unfold CodeO at e2; cases e2) e2⟩
/-- what the law reads -/
structure LawH (P : Program) (w : World) (K : PySem.W.Frag) (mg : Str → Option Value) (base : Heap) (C fIn fQ fI fPl fPr : Addr) (Tb : List NTab) : Prop where
  T : TabM K C fQ fI fPl fPr
  start : ∃ f fd, mg "_law_start" = some (.ref f) ∧ Fun K "_law_start" "_law_start" sStart f fd
  draw : ∃ f fd, mg "_law_draw" = some (.ref f) ∧ Fun K "_law_draw" "_law_draw" sDraw f fd ∧ FnOk P w K mg base CX0 1 f fd ["stream", "many"] spDraw
  rows : ∃ f fd, mg "_law_t_rows" = some (.ref f) ∧ Fun K "_law_t_rows" "_law_t_rows" sRows f fd ∧ FnOk P w K mg base CX0 4 f fd ["stream", "many", "rows", "values"] spRows
  names : ∃ f fd, mg "_law_t_names" = some (.ref f) ∧ Fun K "_law_t_names" "_law_t_names" sNames f fd ∧ FnOk P w K mg base CX0 3 f fd ["stream", "many"] spNames
  sm : ∃ f fd, mg "_law_t_some" = some (.ref f) ∧ Fun K "_law_t_some" "_law_t_some" sSome f fd ∧ FnOk P w K mg base CX0 3 f fd ["stream", "names"] (spSome K)
  pick : ∃ f fd, mg "_law_pick" = some (.ref f) ∧ Fun K "_law_pick" "_law_pick" sPick f fd ∧ FnOk P w K mg base CX0 2 f fd ["stream", "some"] (spPick K)
  due : ∃ f fd, mg "_law_due" = some (.ref f) ∧ Fun K "_law_due" "_law_due" sDue f fd ∧ FnOk P w K mg base CX0 3 f fd ["rows", "hands", "asked"] (spDueH K)
  dueT : ∃ f fd, mg "_law_due_tell" = some (.ref f) ∧ Fun K "_law_due_tell" "_law_due_tell" sDueTell f fd ∧ FnOk P w K mg base CX0 3 f fd ["rows", "hands", "hand", "asked"] (spDueTell K)
  tells : ∃ f fd, mg "_law_t_tells" = some (.ref f) ∧ Fun K "_law_t_tells" "_law_t_tells" sTells f fd ∧ FnOk P w K mg base CX0 2 f fd ["rows", "known", "asked"] (spTells K)
  joined : ∃ f fd, mg "_law_joined" = some (.ref f) ∧ Fun K "_law_joined" "_law_joined" sJoined f fd ∧ FnOk P w K mg base CX0 1 f fd ["hands", "group", "names"] (spJoined K)
  same : ∃ f fd, mg "_law_same" = some (.ref f) ∧ Fun K "_law_same" "_law_same" sSame f fd ∧ ∀ n, FnOk P w K mg base CX0 (n + 1) f fd ["found", "due"] (spSameT n)
  least : ∃ f fd, mg "least_groups" = some (.ref f) ∧ Fun K "least_groups" "least_groups" sLeastG f fd ∧ FnOk P w K mg base CX0 9 f fd ["field", "hands", "asked"] (spGroups K C Tb @leastGI)
  outs : ∃ f fd, mg "outsiders" = some (.ref f) ∧ Fun K "outsiders" "outsiders" sOutsiders f fd ∧ FnOk P w K mg base CX0 9 f fd ["field", "hands", "asked"] (spGroups K C Tb @mostSG)
  knows : ∃ f fd, mg "knows" = some (.ref f) ∧ Fun K "knows" "knows" sKnows f fd ∧ FnOk P w K mg base CX0 6 f fd ["field", "hands", "group", "asked"] (spKnows K C)
  may : ∃ f fd, mg "may_tell" = some (.ref f) ∧ Fun K "may_tell" "may_tell" sMayTell f fd ∧ FnOk P w K mg base CX0 6 f fd ["field", "hands", "name", "asked"] (spMay K C)
  safe : ∃ f fd, mg "is_safe" = some (.ref f) ∧ Fun K "is_safe" "is_safe" sIsSafe f fd ∧ FnOk P w K mg base CX0 10 f fd ["field", "hands", "most", "asked"] (spSafe K C Tb)
  made : Mk K C fIn
  init : ∃ fd, Fun K "__init__" "Table.__init__" sInit fIn fd ∧ FnOk P w K mg base CX0 3 fIn fd ["self", "rows"] (spInit C)
  gC : mg "Table" = some (.ref C)
  nR : mg "range" = none
  nA : mg "all" = none
  nY : mg "any" = none
  nD : mg "dict" = none
  M : Sm mg
abbrev NLw : List Str := ["script", "stream", "turn", "rows", "table", "names", "hands", "hand", "handed", "asked", "least", "most", "turn_two", "group", "due", "many"]
theorem scLaw : FnScope NLw ["script"] (defScope sLaw) := ⟨rfl, rfl, rfl, by decide +kernel, rfl, by decide +kernel, by decide +kernel⟩
def forB : Stmt → List Stmt
  | .For _ _ b _ _ => b
  | _ => []
abbrev bodyT : List Stmt := forB ((defBody sLaw).getD 1 (.Pass ⟨0, 0, 0, 0⟩))
/-- what stands behind the first statements of a turn -/
structure G0 (H : Hp) (C l ls rr q n : Addr) (as : List Addr) (ns : List Str) (tbl : List (List Int)) : Prop where
  r : H rr = some (.lst (as.map V.ref)) ∧ rr ≠ l ∧ rr ≠ ls
  R : RowsAt H l ls ns as tbl
  t : TabAt H C q ns tbl
  n : H n = some (.lst (ns.map V.str)) ∧ n ≠ l ∧ n ≠ ls
  nn : ns ≠ []
  ndn : ns.Nodup
  nok : ∀ x ∈ ns, NmOk x
  l1 : ns.length ≤ 6
  l2 : tbl.length ≤ 20
  tn : tbl ≠ []
theorem G0.D {H : Hp} {C l ls rr q n : Addr} {as : List Addr} {ns : List Str} {tbl : List (List Int)} (h : G0 H C l ls rr q n as ns tbl) : DRows H ns as tbl := Paired.mapP h.R fun a vs h => ⟨h.1, h.2.1⟩
theorem G0.but {H H' : Hp} {C l ls rr q n : Addr} {as : List Addr} {ns : List Str} {tbl : List (List Int)} {N : Int} (h : G0 H C l ls rr q n as ns tbl) (S : Strm H l ls N) (B : But l ls H H') : G0 H' C l ls rr q n as ns tbl :=
  ⟨⟨B _ _ h.r.2.1 h.r.2.2 h.r.1, h.r.2⟩, h.R.but B, h.t.but S B h.nn h.tn, ⟨B _ _ h.n.2.1 h.n.2.2 h.n.1, h.n.2⟩, h.nn, h.ndn, h.nok, h.l1, h.l2, h.tn⟩
theorem G0.ext {H H' : Hp} {C l ls rr q n : Addr} {as : List Addr} {ns : List Str} {tbl : List (List Int)} (h : G0 H C l ls rr q n as ns tbl) (s : ExtN H H') : G0 H' C l ls rr q n as ns tbl :=
  ⟨⟨s _ _ h.r.1 (fun _ z => by cases z), h.r.2⟩, Paired.mapP h.R fun a vs h => ⟨s _ _ h.1 (fun _ z => by cases z), h.2⟩, h.t.ext s, ⟨s _ _ h.n.1 (fun _ z => by cases z), h.n.2⟩, h.nn, h.ndn, h.nok, h.l1, h.l2, h.tn⟩
theorem G0.same {H H' : Hp} {C l ls rr q n : Addr} {as : List Addr} {ns : List Str} {tbl : List (List Int)} (h : G0 H C l ls rr q n as ns tbl) (s : Same H H') : G0 H' C l ls rr q n as ns tbl := h.ext (.of s)
section
variable {P : Program} {w : World} {K : PySem.W.Frag} {mg : Str → Option Value} {base : Heap} {f C fIn fQ fI fPl fPr : Addr} {fd : FuncData} {Tb : List NTab}
/-- the first statements of a turn -/
theorem turn_a (L : LawH P w K mg base C fIn fQ fI fPl fPr Tb) {cdv : Value} {A : Around} {outer : List Env} {s : Shared} {H : Hp} {E : XK} (hr : Room 10 (A.deeper (envOfC "law" (defScope sLaw) s.heap.objs.size f cdv))) {rest : List Stmt} {u : TS} (hrest : PSs (cxOf CX0 P w K mg base NLw "law" (defScope sLaw) f cdv A outer s H E).nox rest u) :
    ∃ t, PSs (cxOf CX0 P w K mg base NLw "law" (defScope sLaw) f cdv A outer s H E).nox (bodyT.take 2 ++ rest) t ∧ ∀ (D : Ends) (H0 : Hp) (s0 s2 s3 s4 s5 : Option V) (sr : List (Option V)) (l ls : Addr) (N : Int), Strm H0 l ls N → N ≤ 400000 →
      (∀ H' rr q n as ns tbl, G0 H' C l ls rr q n as ns tbl → Strm H' l ls (N + 1000) → But l ls H0 H' → u D (s0 :: some (.ref l) :: s2 :: some (.ref rr) :: some (.ref q) :: some (.ref n) :: sr) H') →
      t D (s0 :: some (.ref l) :: s2 :: s3 :: s4 :: s5 :: sr) H0 := by
  obtain ⟨fR, fdR, gR, FR, GR⟩ := L.rows
  obtain ⟨fdI, FI, GI⟩ := L.init
  have bR := FR.binds (ps := ["stream", "many", "rows", "values"]) fun _ _ _ _ _ _ us hl => match us, hl with | [_, _, _, _], _ => rfl
  have bI := FI.binds (ps := ["self", "rows"]) fun _ _ _ _ _ _ us hl => match us, hl with | [_, _], _ => rfl
  have nd := scLaw.nd
  refine ⟨_, pss_cons (ps_set (i := 3) nd rfl (Or.inl rfl) (pe_call GR (hr.mono (by decide)) rfl gR FR.kp bR .nil pass0 (pa_cons (pv 1) (pa_cons pe_int (pa_cons pe_int (pa_cons pe_int pa_nil))))))
    (pss_cons (ps_par (i := 4) (j := 5) rfl nd rfl rfl (by decide) rfl rfl (pa_cons (pe_make L.made GI (hr.mono (by decide)) rfl L.gC bI .nil pass0 (pa_cons (pv 3) pa_nil)) (pa_cons (pe_callTy (call_listD rfl) rfl L.M.nL boot_list' (pa_cons (pe_ix ix_list (pv 3) pe_int (fun _ _ => rfl)) pa_nil)) pa_nil)) (by rfl)) hrest), ?_⟩
  intro D H0 s0 s2 s3 s4 s5 sr l ls N S0 hN fin
  refine ⟨_, rfl, l, ls, 6, 7, 3, N, rfl, S0, by omega, by decide, by decide, by decide, by decide, by decide, by decide, fun H1 rr as ns tbl lns nn nnd nok ltbl tn nrr rl rls orr R S1 B1 => ?_⟩
  have D1 : DRows H1 ns as tbl := Paired.mapP R fun a vs h => ⟨h.1, h.2.1⟩
  refine ⟨_, rfl, fun x dx nx ndx nex => ?_⟩
  have k1 : Same H1 (upd (upd H1 dx (.own x)) x (.ins C dx [])) := fun b o e => by rw [upd_ne (ne_of_none e nx), upd_ne (ne_of_none e ndx)]; exact e
  refine ⟨x, dx, rr, as, ns, tbl, rfl, upd_same, k1 _ _ orr, D1.same k1, tn, by omega, nn, nnd, nok, by omega, fun H2 T fr => ⟨rfl, ?_⟩⟩
  have k2 : Same H1 H2 := fun b o e => fr b o (ne_of_none e nx) (k1 _ _ e)
  have pos : 0 < tbl.length := List.length_pos_iff.mpr tn
  have las : as.length = tbl.length := Paired.length D1
  obtain ⟨a0, ea0⟩ : ∃ a0, as[0]? = some a0 := ⟨as[0]'(by omega), List.getElem?_eq_getElem _⟩
  obtain ⟨vs0, ev0, oa0, lv0⟩ := paired_get (D1.same k2) ea0
  have at0' : atI (as.map V.ref) ((0 : Nat) : Int) = some (.ref a0) := atI_nat (by rw [List.getElem?_map, ea0]; rfl)
  have ekeys : ((dk ns vs0).map fun kv => kV kv.1) = ns.map V.str := by
    have z := congrArg (List.map kV) (dk_keys lv0.symm)
    rw [List.map_map, List.map_map] at z
    exact z
  refine ⟨_, rfl, _, _, _, _, rfl, rfl, SqL.of (k2 _ _ orr), at0', a0, _, rfl, .inl oa0, fun n nn1 => ?_⟩
  rw [ekeys]
  have k3 := same_new (o := .lst (ns.map V.str)) nn1
  have on4 := upd_same (H := H2) (a := n) (o := .lst (ns.map V.str))
  refine ⟨_, _, rfl, ?_⟩
  have s14 := k2.trans k3
  have an := (S1.same k2).apart (Same.refl _) nn1
  exact fin _ rr x n as ns tbl ⟨⟨s14 _ _ orr, rl, rls⟩, Paired.mapP R fun a vs h => ⟨s14 _ _ h.1, h.2⟩, T.same k3, ⟨on4, an⟩, nn, nnd, nok, by omega, ltbl, tn⟩ (S1.same s14) (B1.trans (But.of s14))
end
end L2.TB
namespace L2.TB
open PySem PySem.Spec PyProof.Rows
open HF NdefX LamX
theorem hv_snoc {hn : List Str} {ps : List Addr} {x : Str} {p : Addr} (h : hn.length = ps.length) : hv (hn ++ [x]) (ps ++ [p]) = hv hn ps ++ [(Sum.inr x, V.ref p)] := by
  unfold hv
  rw [List.zip_append h, List.map_append]
  rfl
theorem hv_put {hn : List Str} {ps : List Addr} {x : Str} {p : Addr} (h : hn.length = ps.length) (no : x ∉ hn) : putK (hv hn ps) (Sum.inr x) (.ref p) = hv (hn ++ [x]) (ps ++ [p]) := by
  unfold putK
  rw [if_neg, hv_snoc h]
  intro z
  obtain ⟨kv, hkv, e⟩ := List.any_eq_true.mp z
  have e : kv.1 = Sum.inr x := of_decide_eq_true e
  have m : kv.1 ∈ (hv hn ps).map (·.1) := List.mem_map_of_mem hkv
  rw [hv_keys h, e] at m
  obtain ⟨y, hy, ey⟩ := List.mem_map.mp m
  exact no (Sum.inr.inj ey ▸ hy)
/-- some of unlike strings -/
theorem some_strs {ns : List Str} {ys zs : List V} (pm : (ys ++ zs).Perm (ns.map V.str)) (nnd : ns.Nodup) : ∃ known : List Str, ys = known.map V.str ∧ known.Nodup ∧ ∀ x ∈ known, x ∈ ns := by
  have yin : ∀ y ∈ ys, ∃ x, y = V.str x := fun y hy => by
    have z : y ∈ ns.map V.str := pm.mem_iff.mp (List.mem_append_left _ hy)
    obtain ⟨x, _, rfl⟩ := List.mem_map.mp z
    exact ⟨x, rfl⟩
  obtain ⟨known, rfl⟩ := strs_of ys yin
  have ndall : (known.map V.str ++ zs).Nodup := pm.nodup_iff.mpr (List.Pairwise.map V.str (fun a b h e => h (V.str.inj e)) nnd)
  refine ⟨known, rfl, ?_, fun x hx => ?_⟩
  · have z := (List.nodup_append.mp ndall).1
    exact (List.pairwise_map.mp z).imp fun h e => h (congrArg V.str e)
  · have z : V.str x ∈ ns.map V.str := pm.mem_iff.mp (List.mem_append_left _ (List.mem_map_of_mem hx))
    obtain ⟨y, hy, e⟩ := List.mem_map.mp z
    exact V.str.inj e ▸ hy
/-- the law's own hands -/
structure G1 (H : Hp) (l ls hd : Addr) (hn : List Str) (ps : List Addr) (ks : List (List Str)) (ns : List Str) : Prop where
  o : H hd = some (.dK (hv hn ps)) ∧ hd ≠ l ∧ hd ≠ ls
  f : Paired (fun p (k : List Str) => H p = some (.lst (k.map V.str)) ∧ p ≠ l ∧ p ≠ ls) ps ks
  ln : hn.length = ps.length
  nd : hn.Nodup
  ok : HOk2 ns hn ks
  few : hn.length ≤ 5
theorem G1.but {H H' : Hp} {l ls hd : Addr} {hn : List Str} {ps : List Addr} {ks : List (List Str)} {ns : List Str} (h : G1 H l ls hd hn ps ks ns) (B : But l ls H H') : G1 H' l ls hd hn ps ks ns :=
  ⟨⟨B _ _ h.o.2.1 h.o.2.2 h.o.1, h.o.2⟩, Paired.mapP h.f fun p k q => ⟨B _ _ q.2.1 q.2.2 q.1, q.2⟩, h.ln, h.nd, h.ok, h.few⟩
theorem G1.ext {H H' : Hp} {l ls hd : Addr} {hn : List Str} {ps : List Addr} {ks : List (List Str)} {ns : List Str} (h : G1 H l ls hd hn ps ks ns) (s : ExtN H H') : G1 H' l ls hd hn ps ks ns :=
  ⟨⟨s _ _ h.o.1 (fun _ z => by cases z), h.o.2⟩, Paired.mapP h.f fun p k q => ⟨s _ _ q.1 (fun _ z => by cases z), q.2⟩, h.ln, h.nd, h.ok, h.few⟩
theorem G1.hs {K : PySem.W.Frag} {H : Hp} {l ls hd : Addr} {hn : List Str} {ps : List Addr} {ks : List (List Str)} {ns : List Str} (h : G1 H l ls hd hn ps ks ns) : Hs K H hd hn ps ks :=
  ⟨.inl h.o.1, Paired.mapP h.f fun p k q => .inl q.1, h.ln, h.nd⟩
section
variable {P : Program} {w : World} {K : PySem.W.Frag} {mg : Str → Option Value} {base : Heap} {f C fIn fQ fI fPl fPr : Addr} {fd : FuncData} {Tb : List NTab}
theorem turn_b (L : LawH P w K mg base C fIn fQ fI fPl fPr Tb) {cdv : Value} {A : Around} {outer : List Env} {s : Shared} {H : Hp} {E : XK} (hr : Room 10 (A.deeper (envOfC "law" (defScope sLaw) s.heap.objs.size f cdv))) {rest : List Stmt} {u : TS} (hrest : PSs (cxOf CX0 P w K mg base NLw "law" (defScope sLaw) f cdv A outer s H E).nox rest u) :
    ∃ t, PSs (cxOf CX0 P w K mg base NLw "law" (defScope sLaw) f cdv A outer s H E).nox ((bodyT.drop 2).take 2 ++ rest) t ∧ ∀ (D : Ends) (H0 : Hp) (s0 s2 s6 s7 : Option V) (sr : List (Option V)) (l ls : Addr) (N : Int) (rr q n : Addr) (as : List Addr) (ns : List Str) (tbl : List (List Int)), Strm H0 l ls N → N ≤ 400000 → G0 H0 C l ls rr q n as ns tbl →
      (∀ H' hd hn ps ks s7, G0 H' C l ls rr q n as ns tbl → G1 H' l ls hd hn ps ks ns → Strm H' l ls (N + 1100) → But l ls H0 H' → u D (s0 :: some (.ref l) :: s2 :: some (.ref rr) :: some (.ref q) :: some (.ref n) :: some (.ref hd) :: s7 :: sr) H') →
      t D (s0 :: some (.ref l) :: s2 :: some (.ref rr) :: some (.ref q) :: some (.ref n) :: s6 :: s7 :: sr) H0 := by
  obtain ⟨fD, fdD, gD, FD, GD⟩ := L.draw
  obtain ⟨fN, fdN, gN, FN, GN⟩ := L.names
  obtain ⟨fS, fdS, gS, FS, GS⟩ := L.sm
  have bD := FD.binds (ps := ["stream", "many"]) fun _ _ _ _ _ _ us hl => match us, hl with | [_, _], _ => rfl
  have bN := FN.binds (ps := ["stream", "many"]) fun _ _ _ _ _ _ us hl => match us, hl with | [_, _], _ => rfl
  have bS := FS.binds (ps := ["stream", "names"]) fun _ _ _ _ _ _ us hl => match us, hl with | [_, _], _ => rfl
  have nd := scLaw.nd
  have hu := hu_of hr
  refine ⟨_, pss_cons (ps_set (i := 6) nd rfl (Or.inr rfl) pe_dnewK)
    (pss_cons (ps_for PassesOwn.never rfl (pi_list (pe_call GN (hr.mono (by decide)) rfl gN FN.kp bN .nil pass0 (pa_cons (pv 1) (pa_cons (pe_op op_add pe_int (pe_call GD (hr.mono (by decide)) rfl gD FD.kp bD .nil pass0 (pa_cons (pv 1) (pa_cons pe_int pa_nil)))) pa_nil)))) (pg_name (i := 7) nd rfl (Or.inl rfl))
      (pss_one (ps_dput hu (pv 6) (pv 7) (pe_call GS (hr.mono (by decide)) rfl gS FS.kp bS .nil pass0 (pa_cons (pv 1) (pa_cons (pv 5) pa_nil))) rfl))) hrest), ?_⟩
  intro D H0 s0 s2 s6 s7 sr l ls N rr q n as ns tbl S0 hN Z fin
  refine fun dd nd0 => ?_
  have kd := same_new (o := .dK []) nd0
  have od : upd H0 dd (.dK []) dd = some (.dK (hv [] [])) := upd_same
  generalize upd H0 dd (.dK []) = H1 at kd od
  have ad := S0.apart (Same.refl _) nd0
  refine ⟨_, rfl, _, rfl, l, ls, 5, N, rfl, S0.same kd, by omega, by decide, by decide, fun H2 r r0 r1 S2 B2 => ?_⟩
  refine ⟨_, _, rfl, rfl, l, ls, 1 + r, N + 1, rfl, S2, by omega, by omega, by omega, fun H3 c hn lhn hnd hok nc oc S3 B3 => ?_⟩
  have od3 := B3 _ _ ad.1 ad.2 (B2 _ _ ad.1 ad.2 od)
  have ac := S2.apart (Same.refl _) nc
  have cd : c ≠ dd := fun z => by rw [z, od3] at oc; cases oc
  have lh : 1 ≤ hn.length ∧ hn.length ≤ 5 := by omega
  have B03 : But l ls H0 H3 := ((But.of kd).trans B2).trans B3
  refine ⟨c, rfl, ⟨_, SqL.of oc⟩, for_list (xs := hn.map V.str) (fun i σ H' => (∃ ps ks, H' dd = some (.dK (hv (hn.take i) ps)) ∧ Paired (fun p (k : List Str) => H' p = some (.lst (k.map V.str)) ∧ p ≠ l ∧ p ≠ ls) ps ks ∧ (ps : List Addr).length = i ∧ (∀ k ∈ ks, k.Nodup ∧ ∀ y ∈ k, y ∈ ns)) ∧ H' c = some (.lst (hn.map V.str)) ∧
      Strm H' l ls (N + 26 + 200 * (i : Int)) ∧ But l ls H0 H' ∧ ∃ s7, σ = (s0 :: some (.ref l) :: s2 :: some (.ref rr) :: some (.ref q) :: some (.ref n) :: some (.ref dd) :: s7 :: sr)) ?_ (fun i σ H' _ h => SqL.of h.2.1) ?_ ?_⟩
  · exact ⟨⟨[], [], od3, .nil, rfl, fun k h => by cases h⟩, oc, S3.mono (by omega), B03, _, rfl⟩
  · rintro i v σ H4 ev ⟨⟨ps, ks, od4, pr, lp, kok⟩, oc4, S4, B4, s7', rfl⟩
    rw [List.getElem?_map] at ev
    obtain ⟨x, ex, rfl⟩ := Option.map_eq_some_iff.mp ev
    have hi : i < hn.length := (List.getElem?_eq_some_iff.mp ex).1
    have et : hn.take (i + 1) = hn.take i ++ [x] := by rw [List.take_succ, ex]; rfl
    have Z4 := Z.but S0 B4
    refine ⟨_, rfl, _, rfl, l, ls, n, ns.map V.str, _, rfl, S4, by omega, Z4.n.1, Z4.n.2.1, Z4.n.2.2, by rw [List.length_map]; have := Z.l1; omega, fun H5 p ys zs pm np op S5 B5 => ?_⟩
    obtain ⟨known, rfl, knd, ksub⟩ := some_strs pm Z.ndn
    have od5 := B5 _ _ ad.1 ad.2 od4
    have ap := S4.apart (Same.refl _) np
    have pd : p ≠ dd := fun z => by rw [z, od5] at op; cases op
    have xno : x ∉ hn.take i := fun h => by
      have e1 : (hn.take i ++ [x]).Nodup := et ▸ hnd.sublist (List.take_sublist _ _)
      exact (List.nodup_append.mp e1).2.2 x h x (by simp) rfl
    have lti : (hn.take i).length = ps.length := by rw [List.length_take, lp]; omega
    refine ⟨_, rfl, _, rfl, dd, _, rfl, DPut.k (k := Sum.inr x) od5 (by rw [hv_len lti, List.length_take, sizeLine_eq]; omega), ?_⟩
    refine ⟨⟨ps ++ [p], ks ++ [known], ?_, ?_, by rw [List.length_append, lp]; rfl, fun k hk => (List.mem_append.mp hk).elim (kok k) (fun h => by rw [List.mem_singleton.mp h]; exact ⟨knd, ksub⟩)⟩, ?_, ?_, ?_, _, rfl⟩
    · rw [upd_same, hv_put lti xno, et]
    · refine paired_snoc ⟨by rw [upd_ne pd]; exact op, ap⟩ (Paired.mapP pr fun a k h => ⟨?_, h.2⟩)
      have na : a ≠ dd := fun z => by rw [z, od4] at h; cases h.1
      rw [upd_ne na]
      exact B5 _ _ h.2.1 h.2.2 h.1
    · rw [upd_ne cd]
      exact B5 _ _ ac.1 ac.2 oc4
    · obtain ⟨cs', g, k, m, S⟩ := S5
      exact Strm.mono ⟨cs', g, k, m, by rw [upd_ne (Ne.symm ad.1)]; exact S.o, by rw [upd_ne (Ne.symm ad.2)]; exact S.c, S.ne, S.g0, S.k0, S.k1, S.m0, S.m1, S.sz⟩ (by omega)
    · intro b o h1 h2 e
      rw [upd_ne (ne_of_none e nd0)]
      exact B5 _ _ h1 h2 (B4 _ _ h1 h2 e)
  · rintro σ H4 ⟨⟨ps, ks, od4, pr, lp, kok⟩, oc4, S4, B4, s7', rfl⟩
    have et : hn.take (hn.map V.str).length = hn := List.take_of_length_le (by rw [List.length_map]; exact Nat.le_refl _)
    rw [et] at od4
    rw [List.length_map] at lp S4
    exact fin H4 dd hn ps ks _ (Z.but S0 B4) ⟨⟨od4, ad⟩, pr, lp.symm, hnd, ⟨hok, fun k hk => (kok k hk).1, fun k hk => (kok k hk).2, by have := Z.l1; omega, by omega, by omega⟩, by omega⟩ (S4.mono (by omega)) B4
end
end L2.TB
namespace L2.TB
open PySem PySem.Spec PyProof.Rows
open HF NdefX LamX
theorem but_unlock {l ls dd : Addr} {u : HO} {od : Obj} {H0 H' : Hp} (hd : H0 dd = some u) (a : dd ≠ l ∧ dd ≠ ls) (B : But l ls (upd H0 dd (.frz od u)) H') : H' dd = some (.frz od u) ∧ But l ls H0 (upd H' dd u) :=
  ⟨B _ _ a.1 a.2 upd_same, fun b o h1 h2 e => by
    by_cases hb : b = dd
    · subst hb
      rw [hd] at e
      rw [upd_same]; exact e
    · rw [upd_ne hb]
      exact B _ _ h1 h2 (by rw [upd_ne hb]; exact e)⟩
theorem strm_upd {l ls b : Addr} {o : HO} {H : Hp} {N : Int} (S : Strm H l ls N) (a : b ≠ l ∧ b ≠ ls) : Strm (upd H b o) l ls N := by
  obtain ⟨cs', g, k, m, S⟩ := S
  exact ⟨cs', g, k, m, by rw [upd_ne (Ne.symm a.1)]; exact S.o, by rw [upd_ne (Ne.symm a.2)]; exact S.c, S.ne, S.g0, S.k0, S.k1, S.m0, S.m1, S.sz⟩
/-- the hands that are handed over -/
structure G2 (K : PySem.W.Frag) (H : Hp) (l ls hh : Addr) (hn : List Str) (qs : List Addr) (ks : List (List Str)) : Prop where
  o : H hh = some (.dK (hv hn qs)) ∧ hh ≠ l ∧ hh ≠ ls
  f : Paired (fun p (k : List Str) => SqA K H p (k.map V.str) ∧ p ≠ l ∧ p ≠ ls) qs ks
  ln : hn.length = qs.length
  nd : hn.Nodup
theorem sqA_but {K : PySem.W.Frag} {H H' : Hp} {l ls p : Addr} {xs : List V} (B : But l ls H H') (a : p ≠ l ∧ p ≠ ls) (h : SqA K H p xs) : SqA K H' p xs := h.imp (B _ _ a.1 a.2) (B _ _ a.1 a.2)
theorem G2.but {K : PySem.W.Frag} {H H' : Hp} {l ls hh : Addr} {hn : List Str} {qs : List Addr} {ks : List (List Str)} (h : G2 K H l ls hh hn qs ks) (B : But l ls H H') : G2 K H' l ls hh hn qs ks :=
  ⟨⟨B _ _ h.o.2.1 h.o.2.2 h.o.1, h.o.2⟩, Paired.mapP h.f fun p k q => ⟨sqA_but B q.2 q.1, q.2⟩, h.ln, h.nd⟩
theorem G2.ext {K : PySem.W.Frag} {H H' : Hp} {l ls hh : Addr} {hn : List Str} {qs : List Addr} {ks : List (List Str)} (h : G2 K H l ls hh hn qs ks) (s : ExtN H H') : G2 K H' l ls hh hn qs ks :=
  ⟨⟨s _ _ h.o.1 (fun _ z => by cases z), h.o.2⟩, Paired.mapP h.f fun p k q => ⟨q.1.ext s, q.2⟩, h.ln, h.nd⟩
theorem G2.hs {K : PySem.W.Frag} {H : Hp} {l ls hh : Addr} {hn : List Str} {qs : List Addr} {ks : List (List Str)} (h : G2 K H l ls hh hn qs ks) : Hs K H hh hn qs ks :=
  ⟨.inl h.o.1, Paired.mapP h.f fun p k q => q.1, h.ln, h.nd⟩
abbrev tHanded (K : PySem.W.Frag) : TE := tTup (tCons (tVar 7) (tCons (tCall (spPick K) [] E0 (tCons (tVar 1) (tCons (tLst (tCons (tDGet (tVar 6) (tVar 7)) (tCons (tCB (rTupOf K) (tCons (tDGet (tVar 6) (tVar 7)) tNil)) tNil))) tNil))) tNil))
section
variable {P : Program} {w : World} {K : PySem.W.Frag} {mg : Str → Option Value} {base : Heap} {f C fIn fQ fI fPl fPr : Addr} {fd : FuncData} {Tb : List NTab}
theorem turn_c (L : LawH P w K mg base C fIn fQ fI fPl fPr Tb) {cdv : Value} {A : Around} {outer : List Env} {s : Shared} {H : Hp} {E : XK} (hr : Room 10 (A.deeper (envOfC "law" (defScope sLaw) s.heap.objs.size f cdv))) {rest : List Stmt} {u : TS} (hrest : PSs (cxOf CX0 P w K mg base NLw "law" (defScope sLaw) f cdv A outer s H E).nox rest u) :
    ∃ t, PSs (cxOf CX0 P w K mg base NLw "law" (defScope sLaw) f cdv A outer s H E).nox ((bodyT.drop 4).take 1 ++ rest) t ∧ ∀ (D : Ends) (H0 : Hp) (s0 s2 s3 s4 s5 s7 s8 : Option V) (sr : List (Option V)) (l ls : Addr) (N : Int) (hd : Addr) (hn : List Str) (ps : List Addr) (ks : List (List Str)) (ns : List Str), Strm H0 l ls N → N ≤ 400000 → G1 H0 l ls hd hn ps ks ns →
      (∀ H' hh qs, G1 H' l ls hd hn ps ks ns → G2 K H' l ls hh hn qs ks → Strm H' l ls (N + 10) → But l ls H0 H' → hh ≠ hd → u D (s0 :: some (.ref l) :: s2 :: s3 :: s4 :: s5 :: some (.ref hd) :: s7 :: some (.ref hh) :: sr) H') →
      t D (s0 :: some (.ref l) :: s2 :: s3 :: s4 :: s5 :: some (.ref hd) :: s7 :: s8 :: sr) H0 := by
  obtain ⟨fP, fdP, gP, FP, GP⟩ := L.pick
  have bP := FP.binds (ps := ["stream", "some"]) fun _ _ _ _ _ _ us hl => match us, hl with | [_, _], _ => rfl
  have nd := scLaw.nd
  have hu := hu_of hr
  refine ⟨_, pss_cons (ps_set (i := 8) nd rfl (Or.inr rfl) (pe_callTy (call_dictP rfl) rfl L.nD boot_dict' (pa_cons (pe_lock (pe_lc (own := [("hand", 7)]) (tt := tYes) (te := tHanded K) (g := gName 7) rfl nd (pi_keys (pv 6)) (blkOk_by (N := NLw) (sc := defScope sLaw) (by decide +kernel)) (fun _ _ _ _ _ => pg_name (i := 7) nd rfl (Or.inl rfl)) (fun _ _ _ _ _ => pts_nil)
    (fun _ _ _ _ _ => pe_tup (pa_cons (pv 7) (pa_cons (pe_call GP (hr.mono (by decide)) rfl gP FP.kp bP .nil pass0 (pa_cons (pv 1) (pa_cons (pe_lst (pa_cons (pe_dget hu (pv 6) (pv 7) (fun _ _ => rfl)) (pa_cons (pe_callTy (r := rTupOf K) call_tuple_of rfl L.M.nT boot_tuple' (pa_cons (pe_dget hu (pv 6) (pv 7) (fun _ _ => rfl)) pa_nil)) pa_nil))) pa_nil))) pa_nil))))) pa_nil))) hrest, ?_⟩
  intro D H0 s0 s2 s3 s4 s5 s7 s8 sr l ls N hd hn ps ks ns S0 hN I fin
  refine ⟨hd, _, I.o.1, trivial, fun od => ⟨_, rfl, hd, od, rfl, .inl ⟨_, upd_same, fun D1 nD => ?_⟩⟩⟩
  have hl1 := hv_len I.ln
  have S1 : Strm (upd H0 hd (.frz od (.dK (hv hn ps)))) l ls N := strm_upd S0 I.o.2
  have aD := S1.apart (Same.refl _) nD
  have pout : ∀ p ∈ ps, p ≠ D1 := fun p hp z => by
    obtain ⟨i, hi⟩ := List.mem_iff_getElem?.mp hp
    obtain ⟨k, _, ok, _⟩ := paired_get I.f hi
    have ne : p ≠ hd := fun z => by rw [z, I.o.1] at ok; cases ok
    rw [z] at ok ne
    rw [upd_ne ne, ok] at nD
    cases nD
  have oh1 : upd H0 hd (.frz od (.dK (hv hn ps))) hd = some (.frz od (.dK (hv hn ps))) := upd_same
  have I1 : Hs K (upd H0 hd (.frz od (.dK (hv hn ps)))) hd hn ps ks := I.hs.lock I.o.1
  have R1 : Paired (fun p (k : List Str) => upd H0 hd (.frz od (.dK (hv hn ps))) p = some (.lst (k.map V.str)) ∧ p ≠ l ∧ p ≠ ls) ps ks := Paired.mapP I.f fun p k q => ⟨by
    have ne : p ≠ hd := fun z => by have q := q.1; rw [z, I.o.1] at q; cases q
    rw [upd_ne ne]; exact q.1, q.2⟩
  refine lc_it walk_keys (fun j H' => ∃ ts as, H' D1 = some (.lst ((ts : List Addr).map V.ref)) ∧ Paired (fun t (xa : Str × Addr) => H' t = some (.tup [.str xa.1, .ref xa.2]) ∧ t ≠ l ∧ t ≠ ls) ts ((hn.take j).zip as) ∧ Paired (fun a (k : List Str) => (SqA K H' a (k.map V.str) ∧ a ≠ D1) ∧ a ≠ l ∧ a ≠ ls) as (ks.take j) ∧ (as : List Addr).length = j ∧
      Strm H' l ls (N + j) ∧ But l ls (upd H0 hd (.frz od (.dK (hv hn ps)))) H') ?_ (fun j H' _ h => ?_) ?_ ?_
  · exact ⟨[], [], upd_same, .nil, by rw [List.take_zero]; exact .nil, rfl, by simpa using S1.same (same_new nD), But.of (same_new nD)⟩
  · obtain ⟨_, _, _, _, _, _, _, B⟩ := h
    exact B _ _ I.o.2.1 I.o.2.2 oh1
  · rintro j v Hx H2 lt ⟨ts, as, oD, pt, pa, la, S2, B2⟩ ⟨rfl, k, v', ek, rfl⟩
    obtain ⟨x, p, rfl, rfl, e1, e2⟩ := hv_at ek
    rw [show kV (Sum.inr x) = V.str x from rfl]
    have xin : x ∈ hn := List.mem_of_getElem? e1
    have hj : j < hn.length := (List.getElem?_eq_some_iff.mp e1).1
    have et : hn.take (j + 1) = hn.take j ++ [x] := by rw [List.take_succ, e1]; rfl
    obtain ⟨k, ek2, okp, apl⟩ := paired_get R1 e2
    have etk : ks.take (j + 1) = ks.take j ++ [k] := by rw [List.take_succ, ek2]; rfl
    have op2 := B2 _ _ apl.1 apl.2 okp
    have oh2 := B2 _ _ I.o.2.1 I.o.2.2 oh1
    have vg : valV (hv hn ps) (Sum.inr x) = some (.ref p) := valV_zip I.nd e1 e2
    have dg : DGet H2 hd (.str x) (some (.ref p)) := .inl ⟨_, Sum.inr x, .inr ⟨_, oh2⟩, rfl, vg.symm⟩
    refine ⟨rfl, ?_⟩
    refine ⟨_, rfl, _, rfl, _, rfl, _, rfl, hd, _, rfl, dg, _, rfl, _, rfl, hd, _, rfl, dg, p, _, rfl, .inl ⟨SqL.of op2, fun tp ntp => ⟨by rw [sizeLine_eq]; show 2 ≤ _; omega, fun dl ndl => ?_⟩⟩⟩
    have k5 := same_new (o := .tup (k.map V.str)) ntp
    have k6 := same_new (o := .lst [.ref p, .ref tp]) ndl
    have atp := S2.apart (Same.refl _) ntp
    have adl := (S2.same k5).apart (Same.refl _) ndl
    have otp := k6 _ _ (upd_same (H := H2) (a := tp) (o := .tup (k.map V.str)))
    refine ⟨l, ls, dl, [.ref p, .ref tp], _, rfl, (S2.same k5).same k6, by have := I.few; omega, adl.1, adl.2, upd_same, by show 0 < 2; decide, by show 2 < 1000; decide, fun H3 a hin S3 B3 => ?_⟩
    have k56 := k5.trans k6
    have b : But l ls H2 H3 := (But.of k56).trans B3
    have op3 := b _ _ apl.1 apl.2 op2
    have otp3 := B3 _ _ atp.1 atp.2 otp
    have oD3 := b _ _ aD.1 aD.2 oD
    have tpD : tp ≠ D1 := fun z => by rw [z, oD] at ntp; cases ntp
    have pD : p ≠ D1 := pout p (List.mem_of_getElem? e2)
    obtain ⟨a', rfl, qa⟩ : ∃ a', a = .ref a' ∧ (SqA K H3 a' (k.map V.str) ∧ a' ≠ D1) ∧ a' ≠ l ∧ a' ≠ ls := by
      rcases List.mem_cons.mp hin with e | hin
      · exact ⟨p, e, ⟨.inl op3, pD⟩, apl⟩
      · exact ⟨tp, List.mem_singleton.mp hin, ⟨.inr otp3, tpD⟩, atp⟩
    refine ⟨by rw [sizeLine_eq]; show 2 ≤ _; omega, fun t nt => ?_⟩
    have kt := same_new (o := .tup [.str x, .ref a']) nt
    have at1 := S3.apart (Same.refl _) nt
    have tD : t ≠ D1 := fun z => by rw [z, oD3] at nt; cases nt
    have lts : ts.length = j := by
      have e := Paired.length pt
      rw [List.length_zip, List.length_take] at e
      omega
    refine ⟨_, kt _ _ oD3, (by rw [sizeLine_eq, List.length_map]; have := I.few; omega), ts ++ [t], as ++ [a'], by rw [upd_same]; simp, ?_, ?_, by rw [List.length_append, la]; rfl, ?_, ?_⟩
    · rw [et, List.zip_append (by rw [List.length_take]; omega)]
      refine paired_snoc ⟨by rw [upd_ne tD, upd_same], at1⟩ (Paired.mapP pt fun z kv h => ⟨?_, h.2⟩)
      have na : z ≠ D1 := fun y => by rw [y, oD] at h; cases h.1
      rw [upd_ne na]
      exact kt _ _ (b _ _ h.2.1 h.2.2 h.1)
    · rw [etk]
      have up : ∀ {z : Addr} {xs : List V}, z ≠ D1 → SqA K H3 z xs → SqA K (upd (upd H3 t (.tup [.str x, .ref a'])) D1 (.lst (ts.map V.ref ++ [.ref t]))) z xs := fun nz h => h.imp (fun e => by rw [upd_ne nz]; exact kt _ _ e) (fun e => by rw [upd_ne nz]; exact kt _ _ e)
      exact paired_snoc ⟨⟨up qa.1.2 qa.1.1, qa.1.2⟩, qa.2⟩ (Paired.mapP pa fun z kv h => ⟨⟨up h.1.2 (sqA_but b h.2 h.1.1), h.1.2⟩, h.2⟩)
    · exact (strm_upd (S3.same kt) aD).mono (by omega)
    · intro b' o h1 h2 e
      rw [upd_ne (ne_of_none e nD)]
      exact kt _ _ (b _ _ h1 h2 (B2 _ _ h1 h2 e))
  · rintro H2 ⟨ts, as, oD, pt, pa, la, S2, B2⟩
    obtain ⟨b1, B3⟩ := but_unlock I.o.1 I.o.2 B2
    have eh : hn.take (hv hn ps).length = hn := by rw [hl1]; exact List.take_length
    have lks : ks.length = hn.length := by rw [I.ln]; exact (Paired.length I.f).symm
    have ek : ks.take (hv hn ps).length = ks := by rw [hl1, ← lks]; exact List.take_length
    rw [eh] at pt
    rw [ek] at pa
    have la2 : hn.length = as.length := by rw [la, hl1]
    have dh : D1 ≠ hd := fun z => by rw [z, b1] at oD; cases oD
    refine ⟨b1, D1, ts, hv hn as, rfl, SqL.of (by rw [upd_ne dh]; exact oD), paired_map (Paired.mapP pt fun t xa h => SqT.of (by
      have ne : t ≠ hd := fun z => by have q := h.1; rw [z, b1] at q; cases q
      rw [upd_ne ne]; exact h.1)), fun hh nh => ?_⟩
    rw [merge_nd (by rw [hv_keys la2]; exact List.Pairwise.map Sum.inr (fun a b h e => h (Sum.inr.inj e)) I.nd)]
    have S3 : Strm (upd H2 hd (.dK (hv hn ps))) l ls (N + 10) := (strm_upd S2 I.o.2).mono (by have := I.few; rw [hl1]; omega)
    have ah := S3.apart (Same.refl _) nh
    have kh := same_new (o := .dK (hv hn as)) nh
    have B4 := B3.trans (But.of kh)
    refine fin _ hh as (I.but B4) ⟨⟨upd_same, ah⟩, Paired.mapP pa fun a k h => ⟨SqA.same (h.1.1.imp (fun e => ?_) (fun e => ?_)) kh, h.2⟩, la2, I.nd⟩ (S3.same kh) B4 (fun z => by rw [z, upd_same] at nh; cases nh)
    · rw [upd_ne (fun z => by rw [z, b1] at e; cases e)]; exact e
    · rw [upd_ne (fun z => by rw [z, b1] at e; cases e)]; exact e
end
end L2.TB
namespace L2.TB
open PySem PySem.Spec PyProof.Rows
open HF NdefX LamX
theorem alk_strs {H : Hp} {a b : Addr} {l : List Str} (ha : H a = some (.lst (l.map V.str))) (hb : H b = some (.lst (l.map V.str))) (sh : l.length < 1000) : Alk H 1 (.ref a) (.ref b) := by
  refine .lst ha hb rfl (by rw [List.length_map]; exact sh) fun i x y e1 e2 => ?_
  rw [e1] at e2
  obtain rfl := Option.some.inj e2
  rw [List.getElem?_map] at e1
  obtain ⟨z, _, rfl⟩ := Option.map_eq_some_iff.mp e1
  exact .str z
theorem alk_files {H : Hp} {a b : Addr} {ps qs : List Addr} {fs : List (List Str)} (ha : H a = some (.lst (ps.map V.ref))) (hb : H b = some (.lst (qs.map V.ref))) (fa : FilesAt H ps fs) (fb : FilesAt H qs fs) (sh : fs.length < 1000) (shl : ∀ l ∈ fs, l.length < 1000) : Alk H 2 (.ref a) (.ref b) := by
  have l1 := Paired.length fa
  have l2 := Paired.length fb
  refine .lst ha hb (by rw [List.length_map, List.length_map]; omega) (by rw [List.length_map]; omega) fun i x y e1 e2 => ?_
  rw [List.getElem?_map] at e1 e2
  obtain ⟨p, ep, rfl⟩ := Option.map_eq_some_iff.mp e1
  obtain ⟨q, eq, rfl⟩ := Option.map_eq_some_iff.mp e2
  obtain ⟨k, ek, ok⟩ := paired_get fa ep
  obtain ⟨k', ek', ok'⟩ := paired_get fb eq
  rw [ek] at ek'
  obtain rfl := Option.some.inj ek'
  exact alk_strs ok ok' (shl k (List.mem_of_getElem? ek))
/-- the least groups that are due -/
structure G3 (H : Hp) (l ls lq : Addr) (qs : List Addr) (fs : List (List Str)) : Prop where
  o : H lq = some (.lst (qs.map V.ref)) ∧ lq ≠ l ∧ lq ≠ ls
  f : Paired (fun p (k : List Str) => H p = some (.lst (k.map V.str)) ∧ p ≠ l ∧ p ≠ ls) qs fs
theorem G3.but {H H' : Hp} {l ls lq : Addr} {qs : List Addr} {fs : List (List Str)} (h : G3 H l ls lq qs fs) (B : But l ls H H') : G3 H' l ls lq qs fs :=
  ⟨⟨B _ _ h.o.2.1 h.o.2.2 h.o.1, h.o.2⟩, Paired.mapP h.f fun p k q => ⟨B _ _ q.2.1 q.2.2 q.1, q.2⟩⟩
theorem G3.ext {H H' : Hp} {l ls lq : Addr} {qs : List Addr} {fs : List (List Str)} (h : G3 H l ls lq qs fs) (s : ExtN H H') : G3 H' l ls lq qs fs :=
  ⟨⟨s _ _ h.o.1 (fun _ z => by cases z), h.o.2⟩, Paired.mapP h.f fun p k q => ⟨s _ _ q.1 (fun _ z => by cases z), q.2⟩⟩
theorem G3.files {H : Hp} {l ls lq : Addr} {qs : List Addr} {fs : List (List Str)} (h : G3 H l ls lq qs fs) : FilesAt H qs fs := Paired.mapP h.f fun p k q => q.1
theorem files_free {H : Hp} {l ls : Addr} : ∀ {qs : List Addr} {fs : List (List Str)}, FilesAt H qs fs → (∀ p ∈ qs, p ≠ l ∧ p ≠ ls) → Paired (fun p (k : List Str) => H p = some (.lst (k.map V.str)) ∧ p ≠ l ∧ p ≠ ls) qs fs
  | _, _, .nil, _ => .nil
  | _, _, .cons h t, g => .cons ⟨h, g _ List.mem_cons_self⟩ (files_free t fun p hp => g p (List.mem_cons_of_mem _ hp))
section
variable {P : Program} {w : World} {K : PySem.W.Frag} {mg : Str → Option Value} {base : Heap} {f C fIn fQ fI fPl fPr : Addr} {fd : FuncData} {Tb : List NTab}
theorem G0.tg {H : Hp} {l ls rr q n hd : Addr} {as : List Addr} {ns : List Str} {tbl : List (List Int)} {hn : List Str} {ps : List Addr} {ks : List (List Str)} (Z : G0 H C l ls rr q n as ns tbl) (h : Hs K H hd hn ps ks) (ok : HOk2 ns hn ks) : TgAt K H C q hd ns hn ps ks tbl :=
  ⟨Z.t, h, ok, by have := Z.l2; omega, Z.ndn⟩
theorem turn_d (L : LawH P w K mg base C fIn fQ fI fPl fPr Tb) {cdv : Value} {A : Around} {outer : List Env} {s : Shared} {H : Hp} {E : XK} (hr : Room 10 (A.deeper (envOfC "law" (defScope sLaw) s.heap.objs.size f cdv))) {rest : List Stmt} {u : TS} (hrest : PSs (cxOf CX0 P w K mg base NLw "law" (defScope sLaw) f cdv A outer s H E).nox rest u) :
    ∃ t, PSs (cxOf CX0 P w K mg base NLw "law" (defScope sLaw) f cdv A outer s H E).nox ((bodyT.drop 5).take 3 ++ rest) t ∧ ∀ (D : Ends) (H0 : Hp) (s0 s2 s7 s9 s10 s11 : Option V) (sr : List (Option V)) (l ls : Addr) (N : Int) (rr q n hd hh : Addr) (as : List Addr) (ns : List Str) (tbl : List (List Int)) (hn : List Str) (ps qs : List Addr) (ks : List (List Str)),
      Strm H0 l ls N → N ≤ 400000 → G0 H0 C l ls rr q n as ns tbl → G1 H0 l ls hd hn ps ks ns → G2 K H0 l ls hh hn qs ks → TabsN Tb H0 →
      (∀ H' x lq qs1 s11, x ∈ ns → G0 H' C l ls rr q n as ns tbl → G1 H' l ls hd hn ps ks ns → G2 K H' l ls hh hn qs ks → G3 H' l ls lq qs1 (leastGI (knowT ns hn ks tbl x) hn) → TabsN Tb H' → Strm H' l ls (N + 1) →
        u D (s0 :: some (.ref l) :: s2 :: some (.ref rr) :: some (.ref q) :: some (.ref n) :: some (.ref hd) :: s7 :: some (.ref hh) :: some (.str x) :: some (.ref lq) :: s11 :: sr) H') →
      t D (s0 :: some (.ref l) :: s2 :: some (.ref rr) :: some (.ref q) :: some (.ref n) :: some (.ref hd) :: s7 :: some (.ref hh) :: s9 :: s10 :: s11 :: sr) H0 := by
  obtain ⟨fP, fdP, gP, FP, GP⟩ := L.pick
  obtain ⟨fD, fdD, gD, FD, GD⟩ := L.due
  obtain ⟨fL, fdL, gL, FL, GL⟩ := L.least
  obtain ⟨fO, fdO, gO, FO, GO⟩ := L.outs
  obtain ⟨fM, fdM, gM, FM, GM⟩ := L.same
  have bP := FP.binds (ps := ["stream", "some"]) fun _ _ _ _ _ _ us hl => match us, hl with | [_, _], _ => rfl
  have bD := FD.binds (ps := ["rows", "hands", "asked"]) fun _ _ _ _ _ _ us hl => match us, hl with | [_, _, _], _ => rfl
  have bL := FL.binds (ps := ["field", "hands", "asked"]) fun _ _ _ _ _ _ us hl => match us, hl with | [_, _, _], _ => rfl
  have bO := FO.binds (ps := ["field", "hands", "asked"]) fun _ _ _ _ _ _ us hl => match us, hl with | [_, _, _], _ => rfl
  have bM := FM.binds (ps := ["found", "due"]) fun _ _ _ _ _ _ us hl => match us, hl with | [_, _], _ => rfl
  have nd := scLaw.nd
  refine ⟨_, pss_cons (ps_set (i := 9) nd rfl (Or.inl rfl) (pe_call GP (hr.mono (by decide)) rfl gP FP.kp bP .nil pass0 (pa_cons (pv 1) (pa_cons (pv 5) pa_nil))))
    (pss_cons (ps_asg (pe_call GD (hr.mono (by decide)) rfl gD FD.kp bD .nil pass0 (pa_cons (pv 3) (pa_cons (pv 6) (pa_cons (pv 9) pa_nil)))) (pg_tup rfl (pgs_cons (pg_name (i := 10) nd rfl (Or.inl rfl)) (pgs_cons (pg_name (i := 11) nd rfl (Or.inl rfl)) pgs_nil))))
    (pss_cons (ps_if (pt_not (pt_val (pe_call (GM 3) (hr.mono (by decide)) rfl gM FM.kp bM .nil pass0 (pa_cons (pe_lst (pa_cons (pe_call GL (hr.mono (by decide)) rfl gL FL.kp bL .nil pass0 (pa_cons (pv 4) (pa_cons (pv 8) (pa_cons (pv 9) pa_nil)))) (pa_cons (pe_call GO (hr.mono (by decide)) rfl gO FO.kp bO .nil pass0 (pa_cons (pv 4) (pa_cons (pv 8) (pa_cons (pv 9) pa_nil)))) pa_nil)))
      (pa_cons (pe_lst (pa_cons (pv 10) (pa_cons (pv 11) pa_nil))) pa_nil))))) (pss_one ps_never) pss_nil) hrest)), ?_⟩
  intro D H0 s0 s2 s7 s9 s10 s11 sr l ls N rr q n hd hh as ns tbl hn ps qs ks S0 hN Z I J hT fin
  have npos : 0 < ns.length := List.length_pos_iff.mpr Z.nn
  refine ⟨_, rfl, _, rfl, l, ls, n, ns.map V.str, N, rfl, S0, by omega, Z.n.2.1, Z.n.2.2, Z.n.1, by rw [List.length_map]; omega, by rw [List.length_map]; have := Z.l1; omega, fun H1 xv xvin S1 B1 => ?_⟩
  obtain ⟨x, xin, rfl⟩ := List.mem_map.mp xvin
  have Z1 := Z.but S0 B1
  have I1 := I.but B1
  have J1 := J.but B1
  have T1 := tabs_but hT S0 B1
  have few := I.few
  refine ⟨_, rfl, _, rfl, _, rfl, rr, hd, as, ns, hn, ps, ks, x, tbl, rfl, Z1.r.1, Z1.D, Z1.tn, Z1.ndn, I1.hs, I1.ok, by omega, xin, fun H2 t q1 q2 qs1 qs2 nt ot o1 o2 f1 f2 k2 n1 nf => ?_⟩
  refine ⟨t, _, rfl, SqT.of ot, rfl, _, _, rfl, _, _, rfl, rfl, ?_⟩
  have a1 := S1.apart (Same.refl _) n1
  have G2' : G3 H2 l ls q1 qs1 (leastGI (knowT ns hn ks tbl x) hn) := ⟨⟨o1, a1⟩, files_free f1 fun p hp => S1.apart (Same.refl _) (nf p hp)⟩
  have Z2 := Z1.same k2
  have I2 := I1.ext (.of k2)
  have J2 := J1.ext (.of k2)
  have T2 := T1.ext k2
  refine ⟨_, rfl, _, rfl, _, rfl, q, hh, ns, hn, qs, ks, tbl, x, rfl, Z2.tg J2.hs I2.ok, J2.o.1, xin, T2, fun H3 u1 us1 nu1 ou1 fu1 g3 T3 => ?_⟩
  have Z3 := Z2.ext g3.n
  have I3 := I2.ext g3.n
  have J3 := J2.ext g3.n
  refine ⟨_, rfl, _, rfl, _, rfl, q, hh, ns, hn, qs, ks, tbl, x, rfl, Z3.tg J3.hs I3.ok, J3.o.1, xin, T3, fun H4 u2 us2 nu2 ou2 fu2 g4 T4 => ?_⟩
  have nl : ∀ {b : Addr} {ys : List V} {Ha Hb : Hp}, ExtN Ha Hb → Ha b = some (.lst ys) → Hb b = some (.lst ys) := fun e h => e _ _ h (fun _ z => by cases z)
  have fu1 : FilesAt H3 us1 (leastGI (knowT ns hn ks tbl x) hn) := fu1
  have fu2 : FilesAt H4 us2 (mostSG (knowT ns hn ks tbl x) hn) := fu2
  have ou14 := nl g4.n ou1
  have fu14 := fu1.ext g4.n
  refine ⟨by rw [sizeLine_eq]; show 2 ≤ _; omega, fun fo nfo => ?_⟩
  have kf := same_new (o := .lst [.ref u1, .ref u2]) nfo
  have ofo : upd H4 fo (.lst [.ref u1, .ref u2]) fo = some (.lst [.ref u1, .ref u2]) := upd_same
  generalize upd H4 fo (.lst [.ref u1, .ref u2]) = H5 at kf ofo
  refine ⟨_, rfl, _, rfl, by rw [sizeLine_eq]; show 2 ≤ _; omega, fun dl ndl => ?_⟩
  have kdl := same_new (o := .lst [.ref q1, .ref q2]) ndl
  have odl : upd H5 dl (.lst [.ref q1, .ref q2]) dl = some (.lst [.ref q1, .ref q2]) := upd_same
  generalize upd H5 dl (.lst [.ref q1, .ref q2]) = H6 at kdl odl
  have k46 := kf.trans kdl
  have g26 : ExtN H2 H6 := (g3.n.trans g4.n).trans (.of k46)
  have sh1 := leastGI_short (T := knowT ns hn ks tbl x) (own := hn) (by omega)
  have sh2 := mostSG_short (T := knowT ns hn ks tbl x) (own := hn) (by omega)
  have short : ∀ (n : Nat), n ≤ 5 → 2 ^ n ≤ 32 := fun n h => Nat.le_trans (Nat.pow_le_pow_right (by decide) h) (by decide)
  have sh1 : (leastGI (knowT ns hn ks tbl x) hn).length < 1000 := by
    have h1 : (leastGI (knowT ns hn ks tbl x) hn).length ≤ (filesL hn).length := by
      unfold leastGI inOrder leastG telG
      rw [List.length_mergeSort]
      exact Nat.le_trans (List.length_filter_le _ _) (List.length_filter_le _ _)
    rw [files_len] at h1
    have := short _ few
    omega
  have sh2 : (mostSG (knowT ns hn ks tbl x) hn).length < 1000 := by
    have h1 : (mostSG (knowT ns hn ks tbl x) hn).length ≤ (filesL hn).length := by
      unfold mostSG mostG silG
      rw [List.length_mergeSort]
      exact Nat.le_trans (List.length_filter_le _ _) (List.length_filter_le _ _)
    rw [files_len] at h1
    have := short _ few
    omega
  have in1 : ∀ k ∈ leastGI (knowT ns hn ks tbl x) hn, k.length < 1000 := fun k hk => by have := (leastGI_in k hk).length_le; omega
  have in2 : ∀ k ∈ mostSG (knowT ns hn ks tbl x) hn, k.length < 1000 := fun k hk => by have := (mostSG_in k hk).length_le; omega
  have al1 : Alk H6 2 (.ref u1) (.ref q1) := alk_files (k46 _ _ ou14) (nl g26 o1) (fu14.same k46) (f1.ext g26) sh1 in1
  have al2 : Alk H6 2 (.ref u2) (.ref q2) := alk_files (k46 _ _ ou2) (nl g26 o2) (fu2.same k46) (f2.ext g26) sh2 in2
  refine ⟨.ref fo, .ref dl, rfl, ?_, fun H7 k7 => ?_⟩
  · refine .lst (kdl _ _ ofo) odl rfl (by show 2 < 1000; decide) fun i a b e1 e2 => ?_
    match i, e1, e2 with
    | 0, e1, e2 => obtain rfl := Option.some.inj e1; obtain rfl := Option.some.inj e2; exact al1
    | 1, e1, e2 => obtain rfl := Option.some.inj e1; obtain rfl := Option.some.inj e2; exact al2
    | _ + 2, e1, _ => simp at e1
  · refine ⟨_, rfl, iteF ?_⟩
    have g27 := g26.trans (.of k7)
    exact fin H7 x q1 qs1 _ xin (Z2.ext g27) (I2.ext g27) (J2.ext g27) (G2'.ext g27) (T4.ext (k46.trans k7)) ((S1.same k2).ext g27)
end
end L2.TB
namespace L2.TB
open PySem PySem.Spec PyProof.Rows
open HF NdefX LamX
section
variable {P : Program} {w : World} {K : PySem.W.Frag} {mg : Str → Option Value} {base : Heap} {f C fIn fQ fI fPl fPr : Addr} {fd : FuncData} {Tb : List NTab}
/-- all that a turn has made -/
structure Tn (K : PySem.W.Frag) (Tb : List NTab) (H : Hp) (C l ls rr q n hd hh lq : Addr) (as : List Addr) (ns : List Str) (tbl : List (List Int)) (hn : List Str) (ps qs qs1 : List Addr) (ks : List (List Str)) (x : Str) (N : Int) : Prop where
  Z : G0 H C l ls rr q n as ns tbl
  I : G1 H l ls hd hn ps ks ns
  J : G2 K H l ls hh hn qs ks
  L : G3 H l ls lq qs1 (leastGI (knowT ns hn ks tbl x) hn)
  T : TabsN Tb H
  S : Strm H l ls N
  xin : x ∈ ns
theorem Tn.ext {H H' : Hp} {l ls rr q n hd hh lq : Addr} {as : List Addr} {ns : List Str} {tbl : List (List Int)} {hn : List Str} {ps qs qs1 : List Addr} {ks : List (List Str)} {x : Str} {N : Int} (h : Tn K Tb H C l ls rr q n hd hh lq as ns tbl hn ps qs qs1 ks x N) (s : ExtN H H') (T : TabsN Tb H') : Tn K Tb H' C l ls rr q n hd hh lq as ns tbl hn ps qs qs1 ks x N :=
  ⟨h.Z.ext s, h.I.ext s, h.J.ext s, h.L.ext s, T, h.S.ext s, h.xin⟩
theorem Tn.same {H H' : Hp} {l ls rr q n hd hh lq : Addr} {as : List Addr} {ns : List Str} {tbl : List (List Int)} {hn : List Str} {ps qs qs1 : List Addr} {ks : List (List Str)} {x : Str} {N : Int} (h : Tn K Tb H C l ls rr q n hd hh lq as ns tbl hn ps qs qs1 ks x N) (s : Same H H') : Tn K Tb H' C l ls rr q n hd hh lq as ns tbl hn ps qs qs1 ks x N := h.ext (.of s) (h.T.ext s)
theorem Tn.but {H H' : Hp} {l ls rr q n hd hh lq : Addr} {as : List Addr} {ns : List Str} {tbl : List (List Int)} {hn : List Str} {ps qs qs1 : List Addr} {ks : List (List Str)} {x : Str} {N M : Int} (h : Tn K Tb H C l ls rr q n hd hh lq as ns tbl hn ps qs qs1 ks x N) (B : But l ls H H') (S : Strm H' l ls M) : Tn K Tb H' C l ls rr q n hd hh lq as ns tbl hn ps qs qs1 ks x M :=
  ⟨h.Z.but h.S B, h.I.but B, h.J.but B, h.L.but B, tabs_but h.T h.S B, S, h.xin⟩
theorem turn_e (L : LawH P w K mg base C fIn fQ fI fPl fPr Tb) {cdv : Value} {A : Around} {outer : List Env} {s : Shared} {H : Hp} {E : XK} (hr : Room 10 (A.deeper (envOfC "law" (defScope sLaw) s.heap.objs.size f cdv))) {rest : List Stmt} {u : TS} (hrest : PSs (cxOf CX0 P w K mg base NLw "law" (defScope sLaw) f cdv A outer s H E).nox rest u) :
    ∃ t, PSs (cxOf CX0 P w K mg base NLw "law" (defScope sLaw) f cdv A outer s H E).nox ((bodyT.drop 8).take 1 ++ rest) t ∧ ∀ (D : Ends) (H0 : Hp) (s0 s2 s7 s11 s12 s13 s14 s15 : Option V) (l ls : Addr) (N : Int) (rr q n hd hh lq : Addr) (as : List Addr) (ns : List Str) (tbl : List (List Int)) (hn : List Str) (ps qs qs1 : List Addr) (ks : List (List Str)) (x : Str),
      N ≤ 400000 → Tn K Tb H0 C l ls rr q n hd hh lq as ns tbl hn ps qs qs1 ks x N →
      (∀ H' s12 s13 s14, Tn K Tb H' C l ls rr q n hd hh lq as ns tbl hn ps qs qs1 ks x (N + 630) →
        u D [s0, some (.ref l), s2, some (.ref rr), some (.ref q), some (.ref n), some (.ref hd), s7, some (.ref hh), some (.str x), some (.ref lq), s11, s12, s13, s14, s15] H') →
      t D [s0, some (.ref l), s2, some (.ref rr), some (.ref q), some (.ref n), some (.ref hd), s7, some (.ref hh), some (.str x), some (.ref lq), s11, s12, s13, s14, s15] H0 := by
  obtain ⟨fP, fdP, gP, FP, GP⟩ := L.pick
  obtain ⟨fS, fdS, gS, FS, GS⟩ := L.sm
  obtain ⟨fT, fdT, gT, FT, GT⟩ := L.tells
  obtain ⟨fJ, fdJ, gJ, FJ, GJ⟩ := L.joined
  obtain ⟨fK, fdK, gK, FK, GK⟩ := L.knows
  obtain ⟨fM, fdM, gM, FM, GM⟩ := L.same
  have bP := FP.binds (ps := ["stream", "some"]) fun _ _ _ _ _ _ us hl => match us, hl with | [_, _], _ => rfl
  have bS := FS.binds (ps := ["stream", "names"]) fun _ _ _ _ _ _ us hl => match us, hl with | [_, _], _ => rfl
  have bT := FT.binds (ps := ["rows", "known", "asked"]) fun _ _ _ _ _ _ us hl => match us, hl with | [_, _, _], _ => rfl
  have bJ := FJ.binds (ps := ["hands", "group", "names"]) fun _ _ _ _ _ _ us hl => match us, hl with | [_, _, _], _ => rfl
  have bK := FK.binds (ps := ["field", "hands", "group", "asked"]) fun _ _ _ _ _ _ us hl => match us, hl with | [_, _, _, _], _ => rfl
  have bM := FM.binds (ps := ["found", "due"]) fun _ _ _ _ _ _ us hl => match us, hl with | [_, _], _ => rfl
  have nd := scLaw.nd
  refine ⟨_, pss_cons (ps_for PassesOwn.never rfl (pi_range1 rfl L.nR (pa_cons pe_int pa_nil)) (pg_name (i := 12) nd rfl (Or.inl rfl))
      (pss_cons (ps_set (i := 13) nd rfl (Or.inl rfl) (pe_call GS (hr.mono (by decide)) rfl gS FS.kp bS .nil pass0 (pa_cons (pv 1) (pa_cons (pe_callTy (call_listD rfl) rfl L.M.nL boot_list' (pa_cons (pv 6) pa_nil)) pa_nil))))
      (pss_cons (ps_set (i := 14) nd rfl (Or.inl rfl) (pe_call GT (hr.mono (by decide)) rfl gT FT.kp bT .nil pass0 (pa_cons (pv 3) (pa_cons (pe_call GJ (hr.mono (by decide)) rfl gJ FJ.kp bJ .nil pass0 (pa_cons (pv 6) (pa_cons (pv 13) (pa_cons (pv 5) pa_nil)))) (pa_cons (pv 9) pa_nil)))))
      (pss_one (ps_if (pt_not (pt_val (pe_call (GM 0) (hr.mono (by decide)) rfl gM FM.kp bM .nil pass0 (pa_cons (pe_call GK (hr.mono (by decide)) rfl gK FK.kp bK .nil pass0 (pa_cons (pv 4) (pa_cons (pv 8) (pa_cons (pe_call GP (hr.mono (by decide)) rfl gP FP.kp bP .nil pass0 (pa_cons (pv 1) (pa_cons (pe_lst (pa_cons (pv 13) (pa_cons (pe_callTy (r := rTupOf K) call_tuple_of rfl L.M.nT boot_tuple' (pa_cons (pv 13) pa_nil)) pa_nil))) pa_nil))) (pa_cons (pv 9) pa_nil)))))
        (pa_cons (pv 14) pa_nil))))) (pss_one ps_never) pss_nil))))) hrest, ?_⟩
  intro D H0 s0 s2 s7 s11 s12 s13 s14 s15 l ls N rr q n hd hh lq as ns tbl hn ps qs qs1 ks x hN W fin
  refine ⟨3, rfl, by decide, by decide, for_range (n := 3) (fun i σ H' => Tn K Tb H' C l ls rr q n hd hh lq as ns tbl hn ps qs qs1 ks x (N + 210 * (i : Int)) ∧ ∃ s12 s13 s14, σ = [s0, some (.ref l), s2, some (.ref rr), some (.ref q), some (.ref n), some (.ref hd), s7, some (.ref hh), some (.str x), some (.ref lq), s11, s12, s13, s14, s15])
    ⟨by simpa using W, _, _, _, rfl⟩ ?_ ?_⟩
  · rintro i σ H1 hi ⟨W1, s12', s13', s14', rfl⟩
    have few := W1.I.few
    refine ⟨_, rfl, _, rfl, hd, _, rfl, .inl W1.I.o.1, fun c nc => ?_⟩
    rw [hv_keysV W1.I.ln]
    have kc := same_new (o := .lst (hn.map V.str)) nc
    have oc : upd H1 c (.lst (hn.map V.str)) c = some (.lst (hn.map V.str)) := upd_same
    generalize upd H1 c (.lst (hn.map V.str)) = H2 at kc oc
    have ac := W1.S.apart (Same.refl _) nc
    have W2 := W1.same kc
    refine ⟨l, ls, c, hn.map V.str, _, rfl, W2.S, by omega, oc, ac.1, ac.2, by rw [List.length_map]; omega, fun H3 g ys zs pm ng og S3 B3 => ?_⟩
    obtain ⟨gs, rfl, gnd, gsub⟩ := some_strs pm W1.I.nd
    have W3 := W2.but B3 S3
    have ag := W2.S.apart (Same.refl _) ng
    have gsh : gs.length ≤ hn.length := List.Nodup.length_le_of_subset gnd (fun y hy => gsub y hy)
    have nsh : ns.length < 1000 := by have := W1.Z.l1; omega
    refine ⟨_, rfl, _, rfl, _, rfl, _, rfl, hd, g, n, ns, hn, gs, ps, ks, rfl, W3.I.hs, og, W3.Z.n.1, gsub, by omega, nsh, fun H4 j nj oj k4 => ?_⟩
    have W4 := W3.same k4
    refine ⟨_, rfl, rr, j, as, ns, joinG ns hn ks gs, x, tbl, rfl, ⟨W4.Z.r.1, W4.Z.D.rd, .inl oj, join_sub, nodup_short (join_nd W1.Z.ndn) join_sub nsh, W1.Z.ndn⟩, W1.xin, fun H5 k5 => ?_⟩
    have k35 := k4.trans k5
    have W5 := W3.same k35
    have og5 := k35 _ _ og
    refine ⟨_, rfl, _, rfl, _, rfl, _, rfl, _, rfl, g, _, rfl, .inl ⟨SqL.of og5, fun tp ntp => ⟨by rw [sizeLine_eq]; show 2 ≤ _; omega, fun dl ndl => ?_⟩⟩⟩
    have k6 := same_new (o := .tup (gs.map V.str)) ntp
    have k7 := same_new (o := .lst [.ref g, .ref tp]) ndl
    have atp := W5.S.apart (Same.refl _) ntp
    have adl := (W5.S.same k6).apart (Same.refl _) ndl
    have otp := k7 _ _ (upd_same (H := H5) (a := tp) (o := .tup (gs.map V.str)))
    have k67 := k6.trans k7
    have W7 := W5.same k67
    refine ⟨l, ls, dl, [.ref g, .ref tp], _, rfl, W7.S, by omega, adl.1, adl.2, upd_same, by show 0 < 2; decide, by show 2 < 1000; decide, fun H8 gv gin S8 B8 => ?_⟩
    have W8 := W7.but B8 S8
    have og8 := B8 _ _ ag.1 ag.2 (k67 _ _ og5)
    have otp8 := B8 _ _ atp.1 atp.2 otp
    obtain ⟨g', rfl, qa⟩ : ∃ g', gv = .ref g' ∧ SqA K H8 g' (gs.map V.str) := by
      rcases List.mem_cons.mp gin with e | hin
      · exact ⟨g, e, .inl og8⟩
      · exact ⟨tp, List.mem_singleton.mp hin, .inr otp8⟩
    refine ⟨_, rfl, q, hh, g', ns, hn, gs, qs, ks, tbl, x, rfl, W8.Z.tg W8.J.hs W8.I.ok, W8.J.o.1, W1.xin, qa, gnd, gsub, fun H9 k9 => ?_⟩
    refine ⟨_, rfl, _, _, rfl, .bl _, fun H10 k10 => ⟨_, rfl, iteF ?_⟩⟩
    have W10 := W8.same (k9.trans k10)
    exact ⟨⟨W10.Z, W10.I, W10.J, W10.L, W10.T, W10.S.mono (by omega), W10.xin⟩, _, _, _, rfl⟩
  · rintro σ H1 ⟨W1, s12', s13', s14', rfl⟩
    exact fin H1 _ _ _ ⟨W1.Z, W1.I, W1.J, W1.L, W1.T, W1.S.mono (by omega), W1.xin⟩
end
end L2.TB
namespace L2.TB
open PySem PySem.Spec PyProof.Rows
open HF NdefX LamX
theorem dk_ne_hv {ns hn : List Str} {vs : List Int} {ps : List Addr} (nn : ns ≠ []) (lv : vs.length = ns.length) : dk ns vs ≠ hv hn ps := fun z => by
  match ns, vs, hn, ps, nn, lv, z with
  | [], _, _, _, nn, _, _ => exact nn rfl
  | _ :: _, [], _, _, _, lv, _ => simp at lv
  | _ :: _, _ :: _, [], _, _, _, z => simp [dk, hv] at z
  | _ :: _, _ :: _, _ :: _, [], _, _, z => simp [dk, hv] at z
  | _ :: _, _ :: _, _ :: _, _ :: _, _, _, z => simp [dk, hv] at z
theorem tab_lock {H : Hp} {C a d : Addr} {ns : List Str} {tbl : List (List Int)} {kvs : List (Key × V)} {o : HO} (t : TabAt H C a ns tbl) (hd : H d = some (.dK kvs)) : TabAt (upd H d o) C a ns tbl := by
  have z : ∀ {b : Addr} {u : HO}, H b = some u → (∀ kvs, u ≠ .dK kvs) → upd H d o b = some u := fun e n => by
    rw [upd_ne (fun q => by rw [q, hd] at e; exact n _ (Option.some.inj e).symm)]; exact e
  obtain ⟨dx, qa, ra, h1, h2, ps, h3, h4⟩ := t.ex
  exact ⟨dx, qa, ra, z h1 (fun _ q => by cases q), z h2 (fun _ q => by cases q), ps, z h3 (fun _ q => by cases q), Paired.mapP h4 fun p vs q => ⟨z q.1 (fun _ q => by cases q), q.2⟩⟩
section
variable {P : Program} {w : World} {K : PySem.W.Frag} {mg : Str → Option Value} {base : Heap} {f C fIn fQ fI fPl fPr : Addr} {fd : FuncData} {Tb : List NTab}
theorem turn_f (L : LawH P w K mg base C fIn fQ fI fPl fPr Tb) {cdv : Value} {A : Around} {outer : List Env} {s : Shared} {H : Hp} {E : XK} (hr : Room 10 (A.deeper (envOfC "law" (defScope sLaw) s.heap.objs.size f cdv))) {rest : List Stmt} {u : TS} (hrest : PSs (cxOf CX0 P w K mg base NLw "law" (defScope sLaw) f cdv A outer s H E).nox rest u) :
    ∃ t, PSs (cxOf CX0 P w K mg base NLw "law" (defScope sLaw) f cdv A outer s H E).nox ((bodyT.drop 9).take 1 ++ rest) t ∧ ∀ (D : Ends) (H0 : Hp) (s0 s2 s7 s11 s12 s13 s14 s15 : Option V) (l ls : Addr) (N : Int) (rr q n hd hh lq : Addr) (as : List Addr) (ns : List Str) (tbl : List (List Int)) (hn : List Str) (ps qs qs1 : List Addr) (ks : List (List Str)) (x : Str),
      Tn K Tb H0 C l ls rr q n hd hh lq as ns tbl hn ps qs qs1 ks x N → hh ≠ hd →
      (∀ H' s7, Tn K Tb H' C l ls rr q n hd hh lq as ns tbl hn ps qs qs1 ks x N →
        u D [s0, some (.ref l), s2, some (.ref rr), some (.ref q), some (.ref n), some (.ref hd), s7, some (.ref hh), some (.str x), some (.ref lq), s11, s12, s13, s14, s15] H') →
      t D [s0, some (.ref l), s2, some (.ref rr), some (.ref q), some (.ref n), some (.ref hd), s7, some (.ref hh), some (.str x), some (.ref lq), s11, s12, s13, s14, s15] H0 := by
  obtain ⟨fY, fdY, gY, FY, GY⟩ := L.may
  obtain ⟨fD, fdD, gD, FD, GD⟩ := L.dueT
  obtain ⟨fM, fdM, gM, FM, GM⟩ := L.same
  have bY := FY.binds (ps := ["field", "hands", "name", "asked"]) fun _ _ _ _ _ _ us hl => match us, hl with | [_, _, _, _], _ => rfl
  have bD := FD.binds (ps := ["rows", "hands", "hand", "asked"]) fun _ _ _ _ _ _ us hl => match us, hl with | [_, _, _, _], _ => rfl
  have bM := FM.binds (ps := ["found", "due"]) fun _ _ _ _ _ _ us hl => match us, hl with | [_, _], _ => rfl
  have nd := scLaw.nd
  refine ⟨_, pss_cons (ps_lock (ps_for PassesOwn.never rfl (pi_keys (pv 6)) (pg_name (i := 7) nd rfl (Or.inl rfl))
      (pss_one (ps_if (pt_not (pt_val (pe_call (GM 1) (hr.mono (by decide)) rfl gM FM.kp bM .nil pass0 (pa_cons (pe_call GY (hr.mono (by decide)) rfl gY FY.kp bY .nil pass0 (pa_cons (pv 4) (pa_cons (pv 8) (pa_cons (pv 7) (pa_cons (pv 9) pa_nil)))))
        (pa_cons (pe_call GD (hr.mono (by decide)) rfl gD FD.kp bD .nil pass0 (pa_cons (pv 3) (pa_cons (pv 6) (pa_cons (pv 7) (pa_cons (pv 9) pa_nil))))) pa_nil))))) (pss_one ps_never) pss_nil)))) hrest, ?_⟩
  intro D H0 s0 s2 s7 s11 s12 s13 s14 s15 l ls N rr q n hd hh lq as ns tbl hn ps qs qs1 ks x W ne fin
  have few := W.I.few
  have hl1 := hv_len W.I.ln
  refine ⟨hd, _, W.I.o.1, trivial, fun od => ?_⟩
  have tL : TabAt (upd H0 hd (.frz od (.dK (hv hn ps)))) C q ns tbl := tab_lock W.Z.t W.I.o.1
  have iL : Hs K (upd H0 hd (.frz od (.dK (hv hn ps)))) hd hn ps ks := W.I.hs.lock W.I.o.1
  have seqL : ∀ {b : Addr} {xs : List V}, SqA K H0 b xs → SqA K (upd H0 hd (.frz od (.dK (hv hn ps)))) b xs := fun h => h.imp
    (fun e => by rw [upd_ne (fun z => by rw [z, W.I.o.1] at e; cases e)]; exact e) (fun e => by rw [upd_ne (fun z => by rw [z, W.I.o.1] at e; cases e)]; exact e)
  have lstL : ∀ {b : Addr} {xs : List V}, H0 b = some (.lst xs) → upd H0 hd (.frz od (.dK (hv hn ps))) b = some (.lst xs) := fun e => by
    rw [upd_ne (fun z => by rw [z, W.I.o.1] at e; cases e)]; exact e
  have jL : Hs K (upd H0 hd (.frz od (.dK (hv hn ps)))) hh hn qs ks := ⟨.inl (by rw [upd_ne ne]; exact W.J.o.1), Paired.mapP W.J.f fun p k h => seqL h.1, W.J.ln, W.J.nd⟩
  have joL : upd H0 hd (.frz od (.dK (hv hn ps))) hh = some (.dK (hv hn qs)) := by rw [upd_ne ne]; exact W.J.o.1
  have rL := lstL W.Z.r.1
  have pL : ∀ {i : Nat} {p : Addr} {k : List Str}, ps[i]? = some p → ks[i]? = some k → upd H0 hd (.frz od (.dK (hv hn ps))) p = some (.lst (k.map V.str)) := fun e1 e2 => by
    obtain ⟨k', e3, o, _⟩ := paired_get W.I.f e1
    rw [e2] at e3
    obtain rfl := Option.some.inj e3
    exact lstL o
  have dL : DRows (upd H0 hd (.frz od (.dK (hv hn ps)))) ns as tbl := Paired.mapP W.Z.R fun a vs h => ⟨by
    rw [upd_ne (fun z => by
      have e := h.1
      rw [z, W.I.o.1] at e
      exact dk_ne_hv W.Z.nn h.2.1 (HO.dK.inj (Option.some.inj e)).symm)]
    exact h.1, h.2.1⟩
  have oL : upd H0 hd (.frz od (.dK (hv hn ps))) hd = some (.frz od (.dK (hv hn ps))) := upd_same
  refine ⟨_, rfl, hd, od, rfl, .inl ⟨_, oL, for_it walk_keys (fun i σ H' => Same (upd H0 hd (.frz od (.dK (hv hn ps)))) H' ∧ ∃ s7, σ = [s0, some (.ref l), s2, some (.ref rr), some (.ref q), some (.ref n), some (.ref hd), s7, some (.ref hh), some (.str x), some (.ref lq), s11, s12, s13, s14, s15]) ⟨Same.refl _, _, rfl⟩ (fun i σ H' _ h => h.1 _ _ oL) ?_ ?_⟩⟩
  · rintro i v σ H1x H1 lt ⟨k1, s7', rfl⟩ ⟨rfl, k, v', ek, rfl⟩
    obtain ⟨h, p, rfl, rfl, e1, e2⟩ := hv_at ek
    rw [show kV (Sum.inr h) = V.str h from rfl]
    have hin : h ∈ hn := List.mem_of_getElem? e1
    refine ⟨_, rfl, _, rfl, _, rfl, _, rfl, q, hh, ns, hn, qs, ks, tbl, h, x, rfl, ⟨tL.same k1, jL.same k1, W.I.ok, by have := W.Z.l2; omega, W.Z.ndn⟩, k1 _ _ joL, W.xin, hin, fun H2 m nm om k2 => ?_⟩
    have k12 := k1.trans k2
    obtain ⟨p2, w1, w2, _, _⟩ := (iL.same k12).get hin
    refine ⟨_, rfl, _, rfl, _, rfl, _, rfl, rr, hd, p2, as, ns, hn, ps, ks, h, x, tbl, rfl, k12 _ _ rL, dL.same k12, W.Z.tn, W.Z.ndn, iL.same k12, W.I.ok, hin, w1, k12 _ _ (pL w1 w2), W.xin, fun H3 m2 nm2 om2 k3 => ?_⟩
    have sh : (mayT ns tbl (hl hn ks h) x).length < 1000 := by
      have : (mayT ns tbl (hl hn ks h) x).length ≤ ns.length := by
        unfold mayT
        split
        · exact Nat.zero_le _
        · exact List.length_filter_le _ _
      have := W.Z.l1
      omega
    refine ⟨_, _, rfl, alk_strs (k3 _ _ om) om2 sh, fun H4 k4 => ⟨_, rfl, iteF ⟨(k12.trans k3).trans k4, _, rfl⟩⟩⟩
  · rintro σ H1 ⟨k1, s7', rfl⟩
    obtain ⟨b1, k01⟩ := lock_off W.I.o.1 k1
    exact ⟨b1, fin _ _ (W.same k01)⟩
end
end L2.TB
namespace L2.TB
open PySem PySem.Spec PyProof.Rows
open HF NdefX LamX
theorem safe_due (fs : List (List Str)) (m : Int) : (fs.all fun l => decide (m < (l.length : Int))) = !(fs.any fun l => decide ((l.length : Int) ≤ m)) := by
  rw [List.not_any_eq_all_not]
  congr 1
  funext l
  by_cases h : m < (l.length : Int)
  · rw [decide_eq_true h, decide_eq_false (by omega)]; rfl
  · rw [decide_eq_false h, decide_eq_true (by omega)]; rfl
section
variable {P : Program} {w : World} {K : PySem.W.Frag} {mg : Str → Option Value} {base : Heap} {f C fIn fQ fI fPl fPr : Addr} {fd : FuncData} {Tb : List NTab}
theorem turn_g (L : LawH P w K mg base C fIn fQ fI fPl fPr Tb) {cdv : Value} {A : Around} {outer : List Env} {s : Shared} {H : Hp} {E : XK} (hr : Room 10 (A.deeper (envOfC "law" (defScope sLaw) s.heap.objs.size f cdv))) {rest : List Stmt} {u : TS} (hrest : PSs (cxOf CX0 P w K mg base NLw "law" (defScope sLaw) f cdv A outer s H E).nox rest u) :
    ∃ t, PSs (cxOf CX0 P w K mg base NLw "law" (defScope sLaw) f cdv A outer s H E).nox ((bodyT.drop 10).take 1 ++ rest) t ∧ ∀ (D : Ends) (H0 : Hp) (s0 s2 s7 s11 s12 s13 s14 s15 : Option V) (l ls : Addr) (N : Int) (rr q n hd hh lq : Addr) (as : List Addr) (ns : List Str) (tbl : List (List Int)) (hn : List Str) (ps qs qs1 : List Addr) (ks : List (List Str)) (x : Str),
      Tn K Tb H0 C l ls rr q n hd hh lq as ns tbl hn ps qs qs1 ks x N →
      (∀ H' s14 s15, Tn K Tb H' C l ls rr q n hd hh lq as ns tbl hn ps qs qs1 ks x N →
        u D [s0, some (.ref l), s2, some (.ref rr), some (.ref q), some (.ref n), some (.ref hd), s7, some (.ref hh), some (.str x), some (.ref lq), s11, s12, s13, s14, s15] H') →
      t D [s0, some (.ref l), s2, some (.ref rr), some (.ref q), some (.ref n), some (.ref hd), s7, some (.ref hh), some (.str x), some (.ref lq), s11, s12, s13, s14, s15] H0 := by
  obtain ⟨fS, fdS, gS, FS, GS⟩ := L.safe
  obtain ⟨fM, fdM, gM, FM, GM⟩ := L.same
  have bS := FS.binds (ps := ["field", "hands", "most", "asked"]) fun _ _ _ _ _ _ us hl => match us, hl with | [_, _, _, _], _ => rfl
  have bM := FM.binds (ps := ["found", "due"]) fun _ _ _ _ _ _ us hl => match us, hl with | [_, _], _ => rfl
  have nd := scLaw.nd
  have hu := hu_of hr
  have gN := L.M.nN
  refine ⟨_, pss_cons (ps_for PassesOwn.never rfl (pi_seq (pe_tup (pa_cons pe_int (pa_cons pe_int (pa_cons pe_int (pa_cons (pe_callB call_lenD rfl gN boot_len (pa_cons (pv 6) pa_nil)) (pa_cons (pe_op op_add (pe_callB call_lenD rfl gN boot_len (pa_cons (pv 6) pa_nil)) pe_int) pa_nil))))))) (pg_name (i := 15) nd rfl (Or.inr rfl))
      (pss_cons (ps_set (i := 14) nd rfl (Or.inl rfl) (pe_not (pe_callB (r := rAny K) (cr_any rfl) rfl L.nY boot_any' (pa_cons (pe_lc (own := [("group", 13)]) (tt := tYes) (g := gName 13) (te := tOp (rI0 fun i j => .bl (decide (i ≤ j))) (tCB (rLenS K) (tCons (tVar 13) tNil)) (tVar 15)) rfl nd (pi_list (pv 10)) (blkOk_by (N := NLw) (sc := defScope sLaw) (by decide +kernel)) (fun _ _ _ _ _ => pg_name (i := 13) nd rfl (Or.inl rfl)) (fun _ _ _ _ _ => pts_nil)
        (fun _ _ _ _ _ => pe_cmpR op_le (pe_callB (r := rLenS K) call_len_seq rfl gN boot_len (pa_cons (pv 13) pa_nil)) (pv 15) (nomark _))) pa_nil))))
      (pss_one (ps_if (pt_not (pt_val (pe_call (GM 0) (hr.mono (by decide)) rfl gM FM.kp bM .nil pass0 (pa_cons (pe_call GS hr rfl gS FS.kp bS .nil pass0 (pa_cons (pv 4) (pa_cons (pv 8) (pa_cons (pv 15) (pa_cons (pv 9) pa_nil)))))
        (pa_cons (pv 14) pa_nil))))) (pss_one ps_never) pss_nil)))) hrest, ?_⟩
  intro D H0 s0 s2 s7 s11 s12 s13 s14 s15 l ls N rr q n hd hh lq as ns tbl hn ps qs qs1 ks x W fin
  have few := W.I.few
  have hl1 := hv_len W.I.ln
  refine ⟨_, rfl, hd, _, rfl, W.I.o.1, _, rfl, hd, _, rfl, W.I.o.1, _, _, rfl, rfl, by rw [sizeLine_eq]; show 5 ≤ _; omega, fun tp ntp => ?_⟩
  have kt := same_new (o := .tup [.int 0, .int 1, .int 2, .int ((hv hn ps).length : Nat), .int (((hv hn ps).length : Nat) + 3)]) ntp
  have ot : upd H0 tp (.tup [.int 0, .int 1, .int 2, .int ((hv hn ps).length : Nat), .int (((hv hn ps).length : Nat) + 3)]) tp = some (.tup (([0, 1, 2, ((hv hn ps).length : Nat), ((hv hn ps).length : Nat) + 3] : List Int).map V.int)) := upd_same
  generalize upd H0 tp (.tup [.int 0, .int 1, .int 2, .int ((hv hn ps).length : Nat), .int (((hv hn ps).length : Nat) + 3)]) = H1 at kt ot
  have nonneg : ∀ m ∈ ([0, 1, 2, ((hv hn ps).length : Nat), ((hv hn ps).length : Nat) + 3] : List Int), 0 ≤ m := fun m hm => by
    simp only [List.mem_cons, List.mem_nil_iff, or_false] at hm
    rcases hm with h | h | h | h | h <;> omega
  generalize ([0, 1, 2, ((hv hn ps).length : Nat), ((hv hn ps).length : Nat) + 3] : List Int) = ms at ot nonneg
  refine for_seq (.inr rfl) (fun i σ H' => Tn K Tb H' C l ls rr q n hd hh lq as ns tbl hn ps qs qs1 ks x N ∧ H' tp = some (.tup (ms.map V.int)) ∧ ∃ s14 s15, σ = [s0, some (.ref l), s2, some (.ref rr), some (.ref q), some (.ref n), some (.ref hd), s7, some (.ref hh), some (.str x), some (.ref lq), s11, s12, s13, s14, s15])
    ⟨W.same kt, ot, _, _, rfl⟩ (fun i σ H' _ h => h.2.1) ?_ ?_
  · rintro i v σ H2 ev ⟨W2, ot2, s14', s15', rfl⟩
    rw [List.getElem?_map] at ev
    obtain ⟨m, em, rfl⟩ := Option.map_eq_some_iff.mp ev
    have m0 := nonneg m (List.mem_of_getElem? em)
    have lq1 : qs1.length = (leastGI (knowT ns hn ks tbl x) hn).length := Paired.length W2.L.f
    have sh := leastGI_short (T := knowT ns hn ks tbl x) (own := hn) (by omega)
    refine ⟨_, rfl, lq, rfl, ⟨_, SqL.of W2.L.o.1⟩, lc_gen (((leastGI (knowT ns hn ks tbl x) hn).map fun l => decide ((l.length : Int) ≤ m)).map V.bl) (by rw [List.length_map, List.length_map]; omega) (fun i H' s lt => ⟨_, _, SqL.of (s _ _ W2.L.o.1), List.getElem?_eq_getElem (by rw [List.length_map]; rw [List.length_map, List.length_map] at lt; omega)⟩) (fun H' s => ⟨_, SqL.of (s _ _ W2.L.o.1), by rw [List.length_map, List.length_map, List.length_map]; omega⟩) ?_ ?_⟩
    · rintro j v y H5 H6 Cn Nn ey s5 ⟨rfl, ev⟩ yes
      have ev := ev _ (SqL.of (s5 _ _ W2.L.o.1))
      rw [List.getElem?_map] at ev
      obtain ⟨t, et, rfl⟩ := Option.map_eq_some_iff.mp ev
      obtain ⟨k, ek, ok⟩ := paired_get (W2.L.files.same s5) et
      rw [List.getElem?_map, List.getElem?_map, ek] at ey
      obtain rfl : V.bl (decide ((k.length : Int) ≤ m)) = y := Option.some.inj ey
      refine ⟨rfl, ?_⟩
      refine ⟨_, rfl, t, _, rfl, .inl (SqL.of ok), _, rfl, _, _, rfl, rfl, ?_⟩
      rw [List.length_map]
      exact yes _ (Same.refl _)
    · intro H5 Da nD oD s5
      refine ⟨Da, _, rfl, SqL.of oD, _, rfl, ?_⟩
      have e : ((leastGI (knowT ns hn ks tbl x) hn).map fun l => decide ((l.length : Int) ≤ m)).any id = (leastGI (knowT ns hn ks tbl x) hn).any fun l => decide ((l.length : Int) ≤ m) := by rw [List.any_map]; rfl
      rw [e, ← safe_due]
      have W5 := W2.same s5
      refine ⟨_, rfl, _, rfl, _, rfl, _, rfl, q, hh, ns, hn, qs, ks, tbl, x, m, rfl, W5.Z.tg W5.J.hs W5.I.ok, W5.J.o.1, W.xin, m0, W5.T, fun H6 g6 T6 => ?_⟩
      refine ⟨_, rfl, _, _, rfl, .bl _, fun H7 k7 => ⟨_, rfl, iteF ?_⟩⟩
      have g7 := g6.n.trans (.of k7)
      exact ⟨W5.ext g7 (T6.ext k7), g7 _ _ (s5 _ _ ot2) (fun _ z => by cases z), _, _, rfl⟩
  · rintro σ H2 ⟨W2, ot2, s14', s15', rfl⟩
    exact fin H2 _ _ W2
end
end L2.TB
namespace L2.TB
open PySem PySem.Spec PyProof.Rows
open HF NdefX LamX
theorem files_eqv : ∀ fs : List (List Str), PyData.eqvAll (fs.map fun l => PyData.list (l.map .str)) (fs.map fun l => PyData.list (l.map .str)) = true
  | [] => by simp [PyData.eqvAll]
  | l :: fs => by rw [List.map_cons, PyData.eqvAll, files_eqv fs, PyData.eqv, strs_eqvAll, decide_eq_true rfl]; rfl
theorem eqv_self (fs : List (List Str)) (_ : SeqAt.shaped (.list (fs.map fun l => PyData.list (l.map .str))) = true) : PyData.eqv (.list (fs.map fun l => PyData.list (l.map .str))) (.list (fs.map fun l => PyData.list (l.map .str))) = true := by rw [PyData.eqv, files_eqv]
abbrev rListOf (K : PySem.W.Frag) : List V → Hp → VK → Prop := fun xs H Q => ∃ p ys, xs = [V.ref p] ∧ (SqL K H p ys ∨ SqT K H p ys) ∧ ∀ l, H l = none → Q (.ref l) (upd H l (.lst ys))
section
variable {P : Program} {w : World} {K : PySem.W.Frag} {mg : Str → Option Value} {base : Heap} {f C fIn fQ fI fPl fPr : Addr} {fd : FuncData} {Tb : List NTab}
theorem turn_h (L : LawH P w K mg base C fIn fQ fI fPl fPr Tb) {cdv : Value} {A : Around} {outer : List Env} {s : Shared} {H : Hp} {E : XK} (hr : Room 10 (A.deeper (envOfC "law" (defScope sLaw) s.heap.objs.size f cdv))) :
    ∃ t, PSs (cxOf CX0 P w K mg base NLw "law" (defScope sLaw) f cdv A outer s H E).nox (bodyT.drop 11) t ∧ ∀ (D : Ends) (H0 : Hp) (s0 s2 s7 s11 s12 s13 s14 s15 : Option V) (l ls : Addr) (N : Int) (rr q n hd hh lq : Addr) (as : List Addr) (ns : List Str) (tbl : List (List Int)) (hn : List Str) (ps qs qs1 : List Addr) (ks : List (List Str)) (x : Str),
      Tn K Tb H0 C l ls rr q n hd hh lq as ns tbl hn ps qs qs1 ks x N →
      (∀ H', TabsN Tb H' → Strm H' l ls N →
        D.nx [s0, some (.ref l), s2, some (.ref rr), some (.ref q), some (.ref n), some (.ref hd), s7, some (.ref hh), some (.str x), some (.ref lq), s11, s12, s13, s14, s15] H') →
      t D [s0, some (.ref l), s2, some (.ref rr), some (.ref q), some (.ref n), some (.ref hd), s7, some (.ref hh), some (.str x), some (.ref lq), s11, s12, s13, s14, s15] H0 := by
  have nd := scLaw.nd
  have hu := hu_of hr
  have hu64 := hr.units
  refine ⟨_, pss_one (ps_if (pt_cmpR (r := rNeD K) (op_neD hu64)
    (pe_lock (pe_lc (own := [("hand", 7)]) (tt := tYes) (te := tCB (rListOf K) (tCons (tDGet (tVar 8) (tVar 7)) tNil)) (g := gName 7) rfl nd (pi_keys (pv 8)) (blkOk_by (N := NLw) (sc := defScope sLaw) (by decide +kernel)) (fun _ _ _ _ _ => pg_name (i := 7) nd rfl (Or.inl rfl)) (fun _ _ _ _ _ => pts_nil)
      (fun _ _ _ _ _ => pe_callTy (r := rListOf K) call_list_of rfl L.M.nL boot_list' (pa_cons (pe_dget hu (pv 8) (pv 7) (fun _ _ => rfl)) pa_nil))))
    (pe_lock (pe_lc (own := [("hand", 7)]) (tt := tYes) (g := gName 7) rfl nd (pi_keys (pv 6)) (blkOk_by (N := NLw) (sc := defScope sLaw) (by decide +kernel)) (fun _ _ _ _ _ => pg_name (i := 7) nd rfl (Or.inl rfl)) (fun _ _ _ _ _ => pts_nil)
      (fun _ _ _ _ _ => pe_dget hu (pv 6) (pv 7) (fun _ _ => rfl)))) (nomark _)) (pss_one ps_never) pss_nil), ?_⟩
  intro D H0 s0 s2 s7 s11 s12 s13 s14 s15 l ls N rr q n hd hh lq as ns tbl hn ps qs qs1 ks x W fin
  have few := W.I.few
  have lh1 := hv_len W.I.ln
  have lh2 := hv_len W.J.ln
  have lqs : qs.length = ks.length := Paired.length W.J.f
  have lps : ps.length = ks.length := Paired.length W.I.f
  refine ⟨hh, _, W.J.o.1, trivial, fun od => ⟨_, rfl, hh, od, rfl, .inl ⟨_, upd_same, ?_⟩⟩⟩
  have jL : Hs K (upd H0 hh (.frz od (.dK (hv hn qs)))) hh hn qs ks := W.J.hs.lock W.J.o.1
  have oL : upd H0 hh (.frz od (.dK (hv hn qs))) hh = some (.frz od (.dK (hv hn qs))) := upd_same
  refine lc_listsG (ks.map fun k => k.map V.str) (by rw [List.length_map]; have := W.I.ln; omega) (fun i H' s lt => ⟨s _ _ oL, by rw [lh2, W.J.ln, lqs]; rw [List.length_map] at lt; exact lt⟩) (fun H' s => ⟨s _ _ oL, by rw [lh2, W.J.ln, lqs, List.length_map]; exact Nat.le_refl _⟩) ?_ ?_
  · rintro i v k' H2x H2 Cn Nn el s2' ⟨rfl, kk, v', ek, rfl⟩ yes
    obtain ⟨h, p, rfl, rfl, e1, e2⟩ := hv_at ek
    rw [show kV (Sum.inr h) = V.str h from rfl]
    have hin : h ∈ hn := List.mem_of_getElem? e1
    obtain ⟨p', w1, w2, dg, sq⟩ := (jL.same s2').get hin
    have ei : idx hn h = i := idx_at_nd W.J.nd e1
    rw [ei] at w2
    rw [List.getElem?_map, w2] at el
    obtain rfl := Option.some.inj el
    refine ⟨rfl, ?_⟩
    exact ⟨_, rfl, _, rfl, hh, _, rfl, dg, p', _, rfl, sq.seq, fun q2 nq2 => yes q2 _ nq2 upd_same (same_new nq2)⟩
  intro H2 D1 ts nD oD prD k2 fr
  obtain ⟨b1, k02⟩ := lock_off W.J.o.1 k2
  have ne1 : ∀ {b : Addr} {xs : List V}, H2 b = some (.lst xs) → upd H2 hh (.dK (hv hn qs)) b = some (.lst xs) := fun e => by
    rw [upd_ne (fun z => by rw [z, b1] at e; cases e)]; exact e
  have oD := ne1 oD
  have fD : FilesAt (upd H2 hh (.dK (hv hn qs))) ts ks := Paired.mapP (paired_unmap prD) fun t k e => ne1 e
  generalize upd H2 hh (.dK (hv hn qs)) = H3 at k02 oD fD
  refine ⟨b1, ?_⟩
  have W3 := W.same k02
  refine ⟨hd, _, W3.I.o.1, trivial, fun od2 => ⟨_, rfl, hd, od2, rfl, .inl ⟨_, upd_same, ?_⟩⟩⟩
  have iL : Hs K (upd H3 hd (.frz od2 (.dK (hv hn ps)))) hd hn ps ks := W3.I.hs.lock W3.I.o.1
  have oL2 : upd H3 hd (.frz od2 (.dK (hv hn ps))) hd = some (.frz od2 (.dK (hv hn ps))) := upd_same
  refine lc_gen (ps.map V.ref) (by rw [List.length_map]; have := W.I.ln; omega) (fun i H' s lt => ⟨s _ _ oL2, by rw [lh1, W.I.ln]; rw [List.length_map] at lt; exact lt⟩) (fun H' s => ⟨s _ _ oL2, by rw [lh1, W.I.ln, List.length_map]; exact Nat.le_refl _⟩) ?_ ?_
  · rintro i v y H4x H4 Cn Nn ey s4 ⟨rfl, kk, v', ek, rfl⟩ yes
    obtain ⟨h, p, rfl, rfl, e1, e2⟩ := hv_at ek
    rw [show kV (Sum.inr h) = V.str h from rfl]
    have hin : h ∈ hn := List.mem_of_getElem? e1
    obtain ⟨p', w1, w2, dg, sq⟩ := (iL.same s4).get hin
    have ei : idx hn h = i := idx_at_nd W.I.nd e1
    rw [ei] at w1
    rw [List.getElem?_map, w1] at ey
    obtain rfl := Option.some.inj ey
    refine ⟨rfl, ?_⟩
    exact ⟨_, rfl, _, rfl, hd, _, rfl, dg, yes _ (Same.refl _)⟩
  intro H4 D2 nD2 oD2 k4
  obtain ⟨b2, k34⟩ := lock_off W3.I.o.1 k4
  have ne2 : ∀ {b : Addr} {xs : List V}, H4 b = some (.lst xs) → upd H4 hd (.dK (hv hn ps)) b = some (.lst xs) := fun e => by
    rw [upd_ne (fun z => by rw [z, b2] at e; cases e)]; exact e
  have oD2 := ne2 oD2
  generalize upd H4 hd (.dK (hv hn ps)) = H5 at k34 oD2
  have W5 := W3.same k34
  have fP : FilesAt H5 ps ks := Paired.mapP W5.I.f fun p k h => h.1
  have okK : ∀ k ∈ ks, ∀ y ∈ k, PyData.strOk y = true := fun k hk y hy => nm_strOk (W.Z.nok y (W.I.ok.lsub k hk y hy))
  refine ⟨b2, _, _, .lst (SqL.of (k34 _ _ oD)) (dpD_files (fD.same k34)), .lst (SqL.of oD2) (dpD_files fP), filesD_shaped okK, filesD_shaped okK, _, rfl, ?_⟩
  rw [eqv_self ks (filesD_shaped okK)]
  exact iteF (fin H5 W5.T W5.S)
end
end L2.TB
namespace L2.TB
open PySem PySem.Spec PyProof.Rows
open HF NdefX LamX
def spLawT (K : PySem.W.Frag) (Tb : List NTab) : Sp := fun vs H Q _ => ∃ (a : Addr) (ns : List Int), vs = [.ref a] ∧ SqL K H a (ns.map V.int) ∧ ns.length ≤ 63 ∧ TabsN Tb H ∧ ∀ H', Q (.bl true) H'
section
variable {P : Program} {w : World} {K : PySem.W.Frag} {mg : Str → Option Value} {base : Heap} {f C fIn fQ fI fPl fPr : Addr} {fd : FuncData} {Tb : List NTab}
theorem ok_law (F : Fun K "law" "law" sLaw f fd) (L : LawH P w K mg base C fIn fQ fI fPl fPr Tb) : FnOk P w K mg base CX0 11 f fd ["script"] (spLawT K Tb) := by
  obtain ⟨fS, fdS, gS, FS⟩ := L.start
  have GS : FnOk P w K mg base CX0 1 fS fdS ["script"] (spStart K) := ok_start FS L.M.nL
  have bS := FS.binds (ps := ["script"]) fun _ _ _ _ _ _ us hl => match us, hl with | [_], _ => rfl
  refine F.ok scLaw (fun vs H Q E h => by obtain ⟨a, ns, e, _⟩ := h; rw [e]; rfl) fun cdv A outer s H vs Q E hr hsp => ?_
  obtain ⟨a, cs, rfl, hS, hn, hT, hq⟩ := hsp
  have nd := scLaw.nd
  obtain ⟨tH, pH, rH⟩ := turn_h (f := f) (cdv := cdv) L (outer := outer) (H := H) (E := E) hr
  obtain ⟨tG, pG, rG⟩ := turn_g L (outer := outer) (H := H) (E := E) hr pH
  obtain ⟨tF, pF, rF⟩ := turn_f L (outer := outer) (H := H) (E := E) hr pG
  obtain ⟨tE, pE, rE⟩ := turn_e L (outer := outer) (H := H) (E := E) hr pF
  obtain ⟨tD, pD, rD⟩ := turn_d L (outer := outer) (H := H) (E := E) hr pE
  obtain ⟨tC, pC, rC⟩ := turn_c L (outer := outer) (H := H) (E := E) hr pD
  obtain ⟨tB, pB, rB⟩ := turn_b L (outer := outer) (H := H) (E := E) hr pC
  obtain ⟨tA, pA, rA⟩ := turn_a L (outer := outer) (H := H) (E := E) hr pB
  refine ⟨_, pss_cons (ps_set (i := 1) nd rfl (Or.inr rfl) (pe_call GS (hr.mono (by decide)) rfl gS FS.kp bS .nil pass0 (pa_cons (pv 0) pa_nil)))
    (pss_cons (ps_for PassesOwn.never rfl (pi_range1 rfl L.nR (pa_cons pe_int pa_nil)) (pg_name (i := 2) nd rfl (Or.inl rfl)) pA)
    (pss_one (ps_ret pe_bl))), ?_⟩
  refine ⟨_, rfl, a, cs, rfl, hS, by omega, fun H1 l ls nl k1 S1 nls => ?_⟩
  refine ⟨4, rfl, by decide, by decide, for_range (n := 4) (fun i σ H' => Strm H' l ls (3000 * (i : Int)) ∧ TabsN Tb H' ∧ ∃ s2 s3 s4 s5 s6 s7 s8 s9 s10 s11 s12 s13 s14 s15, σ = [some (.ref a), some (.ref l), s2, s3, s4, s5, s6, s7, s8, s9, s10, s11, s12, s13, s14, s15])
    ⟨by simpa using S1, hT.ext k1, _, _, _, _, _, _, _, _, _, _, _, _, _, _, rfl⟩ ?_ ?_⟩
  · rintro i σ H2 hi ⟨S2, T2, s2, s3, s4, s5, s6, s7, s8, s9, s10, s11, s12, s13, s14, s15, rfl⟩
    refine rA _ H2 _ _ s3 s4 s5 _ l ls _ S2 (by omega) fun H3 rr q n as ns tbl Z3 S3 B3 => ?_
    refine rB _ H3 _ _ s6 s7 _ l ls _ rr q n as ns tbl S3 (by omega) Z3 fun H4 hd hn ps ks s7' Z4 I4 S4 B4 => ?_
    refine rC _ H4 _ _ _ _ _ s7' s8 _ l ls _ hd hn ps ks ns S4 (by omega) I4 fun H5 hh qs I5 J5 S5 B5 ne => ?_
    refine rD _ H5 _ _ s7' s9 s10 s11 _ l ls _ rr q n hd hh as ns tbl hn ps qs ks S5 (by omega) (Z4.but S4 B5) I5 J5 (tabs_but (tabs_but (tabs_but T2 S2 B3) S3 B4) S4 B5) fun H6 x lq qs1 s11' xin Z6 I6 J6 L6 T6 S6 => ?_
    refine rE _ H6 _ _ s7' s11' s12 s13 s14 s15 l ls _ rr q n hd hh lq as ns tbl hn ps qs qs1 ks x (by omega) ⟨Z6, I6, J6, L6, T6, S6, xin⟩ fun H7 s12' s13' s14' W7 => ?_
    refine rF _ H7 _ _ s7' s11' s12' s13' s14' s15 l ls _ rr q n hd hh lq as ns tbl hn ps qs qs1 ks x W7 ne fun H8 s7'' W8 => ?_
    refine rG _ H8 _ _ s7'' s11' s12' s13' s14' s15 l ls _ rr q n hd hh lq as ns tbl hn ps qs qs1 ks x W8 fun H9 s14'' s15' W9 => ?_
    refine rH _ H9 _ _ s7'' s11' s12' s13' s14'' s15' l ls _ rr q n hd hh lq as ns tbl hn ps qs qs1 ks x W9 fun H10 T10 S10 => ?_
    exact ⟨S10.mono (by omega), T10, _, _, _, _, _, _, _, _, _, _, _, _, _, _, rfl⟩
  · rintro σ H2 ⟨S2, T2, s2, s3, s4, s5, s6, s7, s8, s9, s10, s11, s12, s13, s14, s15, rfl⟩
    exact hq H2
end
end L2.TB
namespace L2.TB
open PySem PySem.Spec PyProof.Rows
open HF NdefX LamX
section
variable {K : PySem.W.Frag} {h : Heap} {mg : Str → Option Value}
theorem fun_ofD {x q : Str} {st : Stmt} {f : Addr} {fd : FuncData} (F : FunD K x q (defArgs st) (defBody st) (defScope st) [] [] f fd) : Fun K x q st f fd := by
  obtain ⟨⟨oc, od, dV, kV, doc, pm, an, cdv, ct, osl, e, lk, hc, hd, hk⟩, kp⟩ := F
  obtain rfl : dV = .none := hd.elim (fun z => z.2) fun z => absurd rfl z.1
  exact ⟨⟨oc, od, kV, doc, pm, an, cdv, ct, osl, e, lk, hc⟩, kp⟩
theorem def_at (c : He.SaysD faT fnT K) (X : K.In h) (G : h.Ns mainGlobals mg) (i k : Nat) {x : Str} {st : Stmt} (ei : faT[i]? = some (.glo x)) (ek : fnT[k]? = some (dd (x, none) x x st [])) :
    mg x = some (.ref (He.ga K x)) ∧ ∃ fd, Fun K x x st (He.ga K x) fd := by
  obtain ⟨fd, F⟩ := c.def_ k ek
  exact ⟨He.glo_ok X G (c.fact i ei), fd, fun_ofD F⟩
theorem meth_at (c : He.SaysD faT fnT K) (i k : Nat) {m q : Str} {st : Stmt} (ei : faT[i]? = some (.meth "Table" m)) (ek : fnT[k]? = some (dd ("Table", some m) m q st [])) :
    Meth K (He.ga K "Table") m (He.ma K (He.ga K "Table") m) ∧ ∃ fd, Fun K m q st (He.ma K (He.ga K "Table") m) fd := by
  obtain ⟨fd, F⟩ := c.def_ k ek
  exact ⟨He.meth_ok (c.fact i ei), fd, fun_ofD F⟩
theorem code_of {x : Str} {st : Stmt} {fd : FuncData} (F : Fun K x x st (He.ga K x) fd) : fd.code = .ref (He.cT K (x, none)).1 := by
  obtain ⟨⟨oc, od, kV, doc, pm, an, cdv, ct, osl, e, lk, hc⟩, kp⟩ := F
  obtain ⟨c, e2⟩ := He.codeIn_ref hc
  have e3 : fd.code = .ref c := by rw [e]; exact e2
  have lk2 : K.lookup (He.fAd K (x, none)) = some ⟨oc, od, .func fd, osl⟩ := lk
  rw [e3]
  exact congrArg Value.ref (He.codeOf_eq lk2 e3).symm
abbrev pTl (K : PySem.W.Frag) : Addr := (He.cT K ("_teller", none)).2
abbrev pLm (K : PySem.W.Frag) : Addr := (He.cT K ("least_sets", none)).2
def tbL (K : PySem.W.Frag) : List NTab := [(pTl K, fun _ _ => qTl), (pLm K, fun _ _ => qLm)]
theorem csTl : He.cT K ("_teller", none) ∈ csL K := List.mem_cons_self
theorem csLm : He.cT K ("least_sets", none) ∈ csL K := List.mem_cons_of_mem _ List.mem_cons_self
theorem tabs_nil {H : Hp} (hT : ∀ p ∈ csL K, H p.2 = some (.tbl #[])) : TabsN (tbL K) H := fun p hp => by
  rcases List.mem_cons.mp hp with rfl | hp
  · exact TabN.nil (hT _ csTl)
  · rcases List.mem_cons.mp hp with rfl | hp
    · exact TabN.nil (hT _ csLm)
    · cases hp
theorem uTl (np : pTl K ≠ pLm K) : ∀ p ∈ tbL K, p.1 = pTl K → p.2 = fun _ _ => qTl := fun p hp e => by
  rcases List.mem_cons.mp hp with rfl | hp
  · rfl
  · rcases List.mem_cons.mp hp with rfl | hp
    · exact absurd e.symm np
    · cases hp
theorem uLm (np : pTl K ≠ pLm K) : ∀ p ∈ tbL K, p.1 = pLm K → p.2 = fun _ _ => qLm := fun p hp e => by
  rcases List.mem_cons.mp hp with rfl | hp
  · exact absurd e np
  · rcases List.mem_cons.mp hp with rfl | hp
    · rfl
    · cases hp
end
theorem facts {P : Program} {w : World} {K : PySem.W.Frag} {h : Heap} {mg : Str → Option Value} {f : Addr} (X : K.In h) (G : h.Ns mainGlobals mg) (hfa : mg ("law" : Str) = some (.ref f)) (c : He.SaysD faT fnT K) (np : pTl K ≠ pLm K) :
    ∃ fd : FuncData, (∀ (s : Shared) (v : Value), BindsTo s fd ⟨[v], []⟩ [("script", v)]) ∧ ∀ base : Heap, K.In base → base.Ns mainGlobals mg → (∀ p ∈ csL K, TabB base mg p.1 p.2) → FnOk P w K mg base CX0 11 f fd ["script"] (spLawT K (tbL K)) := by
  obtain ⟨gStart, dStart, FStart⟩ := def_at c X G 0 0 (x := "_law_start") (st := sStart) rfl rfl
  obtain ⟨gDraw, dDraw, FDraw⟩ := def_at c X G 1 1 (x := "_law_draw") (st := sDraw) rfl rfl
  obtain ⟨gPick, dPick, FPick⟩ := def_at c X G 2 2 (x := "_law_pick") (st := sPick) rfl rfl
  obtain ⟨gMixed, dMixed, FMixed⟩ := def_at c X G 3 3 (x := "_law_mixed") (st := sMixed) rfl rfl
  obtain ⟨gSome, dSome, FSome⟩ := def_at c X G 4 4 (x := "_law_t_some") (st := sSome) rfl rfl
  obtain ⟨gNames, dNames, FNames⟩ := def_at c X G 5 5 (x := "_law_t_names") (st := sNames) rfl rfl
  obtain ⟨gRows, dRows, FRows⟩ := def_at c X G 6 6 (x := "_law_t_rows") (st := sRows) rfl rfl
  obtain ⟨gSame, dSame, FSame⟩ := def_at c X G 7 7 (x := "_law_same") (st := sSame) rfl rfl
  obtain ⟨gKey, dKey, FKey⟩ := def_at c X G 8 8 (x := "_law_t_key") (st := sKey) rfl rfl
  obtain ⟨gTells, dTells, FTells⟩ := def_at c X G 9 9 (x := "_law_t_tells") (st := sTells) rfl rfl
  obtain ⟨gFiles, dFiles, FFiles⟩ := def_at c X G 10 10 (x := "_law_t_files") (st := sFiles) rfl rfl
  obtain ⟨gPlaces2, dPlaces2, FPlaces2⟩ := def_at c X G 11 11 (x := "_law_t_places") (st := sPlaces2) rfl rfl
  obtain ⟨gLess, dLess, FLess⟩ := def_at c X G 12 12 (x := "_law_t_less") (st := sLess) rfl rfl
  obtain ⟨gJoined, dJoined, FJoined⟩ := def_at c X G 13 13 (x := "_law_joined") (st := sJoined) rfl rfl
  obtain ⟨gDue, dDue, FDue⟩ := def_at c X G 14 14 (x := "_law_due") (st := sDue) rfl rfl
  obtain ⟨gDueTell, dDueTell, FDueTell⟩ := def_at c X G 15 15 (x := "_law_due_tell") (st := sDueTell) rfl rfl
  obtain ⟨gLaw, dLaw, FLaw⟩ := def_at c X G 16 16 (x := "law") (st := sLaw) rfl rfl
  obtain ⟨gIsInt, dIsInt, FIsInt⟩ := def_at c X G 17 17 (x := "is_integer") (st := sIsInt) rfl rfl
  obtain ⟨gIsCount, dIsCount, FIsCount⟩ := def_at c X G 18 18 (x := "is_count") (st := sIsCount) rfl rfl
  obtain ⟨gIsList, dIsList, FIsList⟩ := def_at c X G 19 19 (x := "is_list") (st := sIsList) rfl rfl
  obtain ⟨gIsName, dIsName, FIsName⟩ := def_at c X G 20 20 (x := "is_name") (st := sIsName) rfl rfl
  obtain ⟨gIsOne, dIsOne, FIsOne⟩ := def_at c X G 21 21 (x := "is_one_of") (st := sIsOne) rfl rfl
  obtain ⟨gFirst, dFirst, FFirst⟩ := def_at c X G 22 22 (x := "first_bad") (st := sFirst) rfl rfl
  obtain ⟨gCkK, dCkK, FCkK⟩ := def_at c X G 23 23 (x := "check_known") (st := sCkK) rfl rfl
  obtain ⟨gCkA, dCkA, FCkA⟩ := def_at c X G 24 24 (x := "check_asked") (st := sCkA) rfl rfl
  obtain ⟨gCkB, dCkB, FCkB⟩ := def_at c X G 25 25 (x := "check_both") (st := sCkB) rfl rfl
  obtain ⟨gCkH, dCkH, FCkH⟩ := def_at c X G 26 26 (x := "check_hands") (st := sCkH) rfl rfl
  obtain ⟨gHasJust, dHasJust, FHasJust⟩ := def_at c X G 27 27 (x := "has_just") (st := sHasJust) rfl rfl
  obtain ⟨gTellings, dTellings, FTellings⟩ := def_at c X G 28 28 (x := "_tellings") (st := sTellings) rfl rfl
  obtain ⟨gBits, dBits, FBits⟩ := def_at c X G 29 29 (x := "_places") (st := sBits) rfl rfl
  obtain ⟨gLeastS, dLeastS, FLeastS⟩ := def_at c X G 30 30 (x := "least_sets") (st := sLeastS) rfl rfl
  obtain ⟨gMostS, dMostS, FMostS⟩ := def_at c X G 31 31 (x := "most_sets") (st := sMostS) rfl rfl
  obtain ⟨gKnows, dKnows, FKnows⟩ := def_at c X G 32 32 (x := "knows") (st := sKnows) rfl rfl
  obtain ⟨gLeastG, dLeastG, FLeastG⟩ := def_at c X G 33 33 (x := "least_groups") (st := sLeastG) rfl rfl
  obtain ⟨gOutsiders, dOutsiders, FOutsiders⟩ := def_at c X G 34 34 (x := "outsiders") (st := sOutsiders) rfl rfl
  obtain ⟨gMayTell, dMayTell, FMayTell⟩ := def_at c X G 35 35 (x := "may_tell") (st := sMayTell) rfl rfl
  obtain ⟨gIsSafe, dIsSafe, FIsSafe⟩ := def_at c X G 36 36 (x := "is_safe") (st := sIsSafe) rfl rfl
  obtain ⟨gCkHA, dCkHA, FCkHA⟩ := def_at c X G 37 37 (x := "_check_both") (st := sCkHA) rfl rfl
  obtain ⟨gTogether, dTogether, FTogether⟩ := def_at c X G 38 38 (x := "_together") (st := sTogether) rfl rfl
  obtain ⟨gTeller, dTeller, FTeller⟩ := def_at c X G 39 39 (x := "_teller") (st := sTeller) rfl rfl
  obtain ⟨gBadRow, dBadRow, FBadRow⟩ := def_at c X G 40 40 (x := "_first_bad_row") (st := sBadRow) rfl rfl
  obtain ⟨mInit, dInit, FInit⟩ := meth_at c 66 41 (m := "__init__") (q := "Table.__init__") (st := sInit) rfl rfl
  obtain ⟨mQs, dQs, FQs⟩ := meth_at c 62 42 (m := "questions") (q := "Table.questions") (st := sQs) rfl rfl
  obtain ⟨mIsTold, dIsTold, FIsTold⟩ := meth_at c 63 43 (m := "is_told") (q := "Table.is_told") (st := sIsTold) rfl rfl
  obtain ⟨mPlaces, dPlaces, FPlaces⟩ := meth_at c 64 44 (m := "_places") (q := "Table._places") (st := sPlaces) rfl rfl
  obtain ⟨mParting, dParting, FParting⟩ := meth_at c 65 45 (m := "_parting_rows") (q := "Table._parting_rows") (st := sParting) rfl rfl
  have n_list : mg "list" = none := He.free_ok X G (c.fact 42 rfl)
  have n_len : mg "len" = none := He.free_ok X G (c.fact 43 rfl)
  have n_int : mg "int" = none := He.free_ok X G (c.fact 44 rfl)
  have n_range : mg "range" = none := He.free_ok X G (c.fact 45 rfl)
  have n_dict : mg "dict" = none := He.free_ok X G (c.fact 46 rfl)
  have n_tuple : mg "tuple" = none := He.free_ok X G (c.fact 47 rfl)
  have n_str : mg "str" = none := He.free_ok X G (c.fact 48 rfl)
  have n_bool : mg "bool" = none := He.free_ok X G (c.fact 49 rfl)
  have n_isinstance : mg "isinstance" = none := He.free_ok X G (c.fact 50 rfl)
  have n_all : mg "all" = none := He.free_ok X G (c.fact 51 rfl)
  have n_enumerate : mg "enumerate" = none := He.free_ok X G (c.fact 52 rfl)
  have n_zip : mg "zip" = none := He.free_ok X G (c.fact 53 rfl)
  have n_sorted : mg "sorted" = none := He.free_ok X G (c.fact 54 rfl)
  have n_set : mg "set" = none := He.free_ok X G (c.fact 55 rfl)
  have n_any : mg "any" = none := He.free_ok X G (c.fact 56 rfl)
  have gC : mg "Table" = some (.ref (He.ga K "Table")) := He.glo_ok X G (c.fact 41 rfl)
  have gLo := He.int_ok X G (c.fact (f := .int "LONGEST" 40) 57 rfl)
  have gSg := He.str_ok X G (c.fact (f := .str "SIGNS" "abcdefghijklmnopqrstuvwxyz0123456789.") 58 rfl)
  have T0 : TabC K (He.ga K "Table") := ⟨He.cls_ok (c.fact 59 rfl), He.noat_ok (c.fact 60 rfl), He.noat_ok (c.fact 61 rfl)⟩
  have T : TabM K (He.ga K "Table") _ _ _ _ := ⟨T0, ⟨_, FQs⟩, ⟨_, FIsTold⟩, ⟨_, FPlaces⟩, ⟨_, FParting⟩, mQs, mIsTold, mPlaces, mParting⟩
  have Ck : Chk K mg _ _ _ _ _ _ := ⟨⟨_, FFirst⟩, ⟨_, FIsList⟩, ⟨_, FIsOne⟩, ⟨_, FCkK⟩, ⟨_, FCkA⟩, ⟨_, FCkB⟩, gFirst, gIsList, gIsOne, gCkK, gCkA, gCkB, n_isinstance, n_list, n_tuple, n_str, n_enumerate⟩
  have M : Sm mg := ⟨n_isinstance, n_list, n_tuple, n_int, n_bool, n_len, n_all, n_zip⟩
  have Mk := He.mkr_ok (c.fact (f := .mkr "Table") 67 rfl)
  have e := hfa.symm.trans gLaw
  cases e
  have cTl := code_of FTeller
  have cLs := code_of FLeastS
  obtain ⟨oc, od, kV, doc, pm, an, cdv, ct, osl, rfl, lk, hcd⟩ := FLaw.ex
  refine ⟨PySem.W.fnOf "law" "law" (defArgs sLaw) (defBody sLaw) (defScope sLaw) .none kV doc pm an cdv ct, fun s v => .of_eq rfl, fun base _ _ hTB => ?_⟩
  have gNm2 : FnOk P w K mg base CX0 1 _ _ ["thing"] spIsName := ok_isName FIsName n_isinstance n_str n_len n_all gLo gSg
  have gH := ok_ckH (P := P) (w := w) (base := base) FCkH Ck FIsName gIsName gNm2 n_dict n_len
  have gHA := ok_ckHA (P := P) (w := w) (base := base) FCkHA T Ck FCkH gCkH gH
  have gTo := ok_together (P := P) (w := w) (base := base) FTogether T n_list
  have W : LowH P w K mg base (He.ga K "Table") (tbL K) := { B := ⟨_, _, gCkHA, FCkHA, gHA⟩, H := ⟨_, _, gCkH, FCkH, gH⟩, G := ⟨_, _, gTogether, FTogether, gTo⟩, E := ⟨_, _, gTeller, FTeller, ok_teller FTeller cTl (hTB _ csTl) List.mem_cons_self (uTl np) T Ck FTogether gTogether⟩, L := ⟨_, _, gLeastS, FLeastS, ok_leastS FLeastS cLs (Pt := pLm K) ⟨hTB _ csLm, List.mem_cons_of_mem _ List.mem_cons_self, uLm np⟩ FTellings gTellings FBits gBits n_range n_any n_len n_sorted⟩, M := ⟨_, _, gMostS, FMostS, ok_mostS FMostS FTellings gTellings FBits gBits n_range n_any n_all n_sorted⟩, n := n_len, nL := n_list, nA := n_all }
  have gLG := ok_leastG (P := P) (w := w) (base := base) FLeastG W
  exact ok_law (C := He.ga K "Table") FLaw { T := T, start := ⟨_, _, gStart, FStart⟩, draw := ⟨_, _, gDraw, FDraw, ok_draw FDraw n_int⟩, rows := ⟨_, _, gRows, FRows, ok_rows FRows FNames gNames FPick gPick FDraw gDraw n_int n_len n_range n_dict⟩, names := ⟨_, _, gNames, FNames, ok_names FNames FPick gPick FDraw gDraw n_int n_len n_range⟩, sm := ⟨_, _, gSome, FSome, ok_some FSome FMixed gMixed FDraw gDraw n_int n_len n_list n_range⟩, pick := ⟨_, _, gPick, FPick, ok_pick FPick FDraw gDraw n_int n_len⟩, due := ⟨_, _, gDue, FDue, ok_due FDue FFiles gFiles FTells gTells FKey gKey FLess gLess FPlaces2 gPlaces2 FJoined gJoined n_tuple n_len n_all n_any n_sorted n_list⟩, dueT := ⟨_, _, gDueTell, FDueTell, ok_dueTell FDueTell FTells gTells FKey gKey n_tuple n_int⟩, tells := ⟨_, _, gTells, FTells, ok_tells FTells FKey gKey n_tuple⟩, joined := ⟨_, _, gJoined, FJoined, ok_joined FJoined n_any⟩, same := ⟨_, _, gSame, FSame, fun n => ok_sameT FSame gSame M n⟩, least := ⟨_, _, gLeastG, FLeastG, gLG⟩, outs := ⟨_, _, gOutsiders, FOutsiders, ok_outs FOutsiders W⟩, knows := ⟨_, _, gKnows, FKnows, ok_knows FKnows T Ck W⟩, may := ⟨_, _, gMayTell, FMayTell, ok_may FMayTell T Ck W⟩, safe := ⟨_, _, gIsSafe, FIsSafe, ok_safe FIsSafe T Ck W FIsCount gIsCount (ok_isCount FIsCount FIsInt gIsInt n_isinstance n_int n_bool) FLeastG gLeastG gLG⟩, made := Mk, init := ⟨_, FInit, ok_init FInit T0 (ok_badRow FBadRow FIsList gIsList FIsInt gIsInt FIsName gIsName FHasJust gHasJust n_isinstance n_list n_tuple n_str n_enumerate n_len n_all n_dict n_int n_bool gLo gSg) FBadRow gBadRow n_list n_tuple⟩, gC := gC, nR := n_range, nA := n_all, nY := n_any, nD := n_dict, M := M }
end L2.TB
open PySem PySem.W PySem.Calls PyProof.Rows
set_option maxHeartbeats 0 in
theorem PySem.Challenge.cw_twoworlds_k06_whole_hands_holds : PySem.Challenge.rw_twoworlds_k06_whole_hands.Holds := by
  w_on; o_law
  refine HandSHeadRun.head_any (r := L2.TB.HdR.R) (q := L2.TB.HdR.qv) (H := L2.TB.hookK) (ob := L2.TB.obT) (M := 16000) (loose := L2.TB.HdR.names)
    (d := HandSHeadRun.topDef L2.TB.HdR.R.prog 64) (kwd := []) L2.TB.obT_eq
    (by kernel_rfl) (fun s => by kernel_rfl) L2.TB.HdR.run (by kernel_rfl) (by kernel_rfl) (by kernel_rfl) (by rfl)
    (by first | assumption | decide +kernel) (by decide +kernel) ⟨rfl, rfl, rfl, rfl, rfl, by decide +kernel⟩ ?hw ?hc
  case hw => w_witness2
  case hc =>
    refine LamX.walk_ofTsE (l := PySem.Challenge.rw_twoworlds_k06_whole_hands) (n := 63) (k := 11) (x := "script") (CX := fun _ => L2.CX0)
      rfl (by decide) (by kernel_rfl) ⟨rfl, by decide, by decide⟩ ?F (fun _ _ _ _ _ z => z)
    intro w mg fa h Y G hmg0
    obtain ⟨K, KX, c⟩ := Y
    have hmg : mg ("law" : PySem.Str) = some (.ref fa) := by
      have e : (HandSHeadRun.topDef L2.TB.HdR.R.prog 64).name = ("law" : PySem.Str) := by kernel_rfl
      rw [← e]; exact hmg0
    obtain ⟨fd, hb, hF⟩ := L2.TB.facts (P := PySem.Challenge.rw_twoworlds_k06_whole_hands.prog) (w := w) KX G hmg c.d c.np
    exact ⟨K, KX, fd, L2.TB.csL K, L2.TB.spLawT K (L2.TB.tbL K), fun p hp => c.emptyC hp, fun p hp => c.outC hp, fun p hp => PySem.W.codeHd_of_K KX (c.hdC hp), hb, fun H a ns hl _ hT hS => ⟨a, ns, rfl, hS, by omega, L2.TB.tabs_nil hT, fun _ => rfl⟩, hF⟩
