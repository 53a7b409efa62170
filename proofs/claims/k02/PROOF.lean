import PyProof.Rows.All
import Wide.All
import OpenK.AllK
import Wide.FinOn
import HandS.ForMost
import HandS.Exc
import HandS.ExcInit
import HandS.IsInst
import HandS.Defaults
import HandS.Wide
import HandS.Conv
import HandS.Dict
import HandS.DictTup
import HandS.DictComp
import HandS.Flow
import HandS.Style
import HandS.TupSets
import HandS.NoneIn
import HandS.Head0
import HandS.Head1
import HandS.Head2
import HandS.HeadEnd
import HandS.HeadHook1
import HandS.HeadHook2
import HandS.HeadHook4
import HandS.Nested
import KE.KeyNested
import PyProof.DictFindH
import PyProof.DictTable
import HandS.TupLen
import HandS.Walk
import HandS.ListItems
import HandS.Iter
import KE.GoesEnum
import HandS.More
import HandS.Zip
import KE.GoesZip
import KE.GoesMore
import HandS.Deep
import HandS.Codes
import KE.KEqNest
import HandS.OwnEq
import HandS.HeadWalk
import PySem.Challenge.RW_twoworlds_k02_whole_plans_or_worlds
set_option Elab.async false
set_option linter.all false
set_option maxRecDepth 100000
set_option maxHeartbeats 40000000
namespace L2.TB
open PySem PySem.Spec PyProof.Rows
def topS (i : Nat) : Stmt := PySem.Challenge.pw_twoworlds_k02_whole_plans_or_worlds.main.body.getD i (.Pass ⟨0, 0, 0, 0⟩)
abbrev sStart : Stmt := topS 36
abbrev sDraw : Stmt := topS 37
abbrev sPick : Stmt := topS 38
abbrev sMixed : Stmt := topS 39
abbrev sSome : Stmt := topS 33
abbrev sNames : Stmt := topS 30
abbrev sRows : Stmt := topS 31
abbrev sTurned : Stmt := topS 32
abbrev sKey : Stmt := topS 34
abbrev sTells : Stmt := topS 35
abbrev sSame : Stmt := topS 40
abbrev sLot : Stmt := topS 41
abbrev sBentP : Stmt := topS 42
abbrev sBentW : Stmt := topS 43
abbrev sLawAp : Stmt := topS 44
abbrev sPlanR : Stmt := topS 45
abbrev sLaw : Stmt := topS 46
abbrev sIsInt : Stmt := topS 13
abbrev sIsList : Stmt := topS 14
abbrev sIsPair : Stmt := topS 15
abbrev sIsName : Stmt := topS 16
abbrev sIsOne : Stmt := topS 17
abbrev sHasJust : Stmt := topS 18
abbrev sIsParted : Stmt := topS 19
abbrev sFirst : Stmt := topS 20
abbrev sCkK : Stmt := topS 21
abbrev sCkA : Stmt := topS 22
abbrev sCkB : Stmt := topS 23
abbrev sCkLack : Stmt := topS 24
abbrev sAreInts : Stmt := topS 27
abbrev sBadRow : Stmt := topS 28
abbrev sTable : Stmt := topS 26
abbrev sInit : Stmt := inClass sTable 0
abbrev sQs : Stmt := inClass sTable 4
abbrev sDictOf : Stmt := inClass sTable 17
abbrev sIsTold : Stmt := inClass sTable 7
abbrev sPlan : Stmt := inClass sTable 8
abbrev sIsPlan : Stmt := inClass sTable 9
abbrev sFound : Stmt := inClass sTable 10
abbrev sApart : Stmt := inClass sTable 11
abbrev sAreAp : Stmt := inClass sTable 12
abbrev sIsWorld : Stmt := inClass sTable 19
abbrev sPlaces : Stmt := inClass sTable 18
abbrev sParting : Stmt := inClass sTable 21
abbrev sPlanOf : Stmt := inClass sTable 22
end L2.TB
namespace L2.TB
open PySem PySem.Spec PyProof.Rows
/-! ### what the top leaves, by addresses -/
def asK : List Nat := ([3, 6, 4, 21, 31, 51, 70, 89, 108, 127, 146, 158, 167, 174, 181, 186, 193, 198, 203, 210, 217, 224, 231, 236, 383, 392, 397, 402, 407, 412, 419, 424, 431, 438, 445, 452, 457, 462, 467, 472] : List Nat) ++
  ([477, 482, 489, 496, 20, 30, 50, 69, 88, 107, 126, 145, 157, 166, 173, 180, 185, 192, 197, 202, 209, 216, 223, 230, 235, 382, 391, 396, 401, 406, 411, 418, 423, 430, 437, 444, 451, 456, 461, 466] : List Nat) ++
  ([471, 476, 481, 488, 495, 15, 16, 17, 18, 19, 29, 32, 48, 49, 67, 68, 86, 87, 105, 106, 124, 125, 143, 144, 156, 161, 162, 163, 164, 165, 168, 169, 170, 171, 172, 175, 176, 177, 178, 179] : List Nat) ++
  ([182, 183, 184, 187, 188, 189, 190, 191, 194, 195, 196, 199, 200, 201, 204, 205, 206, 207, 208, 211, 212, 213, 214, 215, 218, 219, 220, 221, 222, 225, 226, 227, 228, 229, 232, 233, 234, 248, 255, 262] : List Nat) ++
  ([269, 276, 283, 288, 295, 302, 307, 312, 319, 326, 331, 336, 343, 350, 355, 360, 365, 370, 375, 380, 381, 384, 385, 388, 389, 390, 393, 394, 395, 398, 399, 400, 403, 404, 405, 408, 409, 410, 413, 414] : List Nat) ++
  ([415, 416, 417, 420, 421, 422, 425, 426, 427, 428, 429, 432, 433, 434, 435, 436, 439, 440, 441, 442, 443, 446, 447, 448, 449, 450, 453, 454, 455, 458, 459, 460, 463, 464, 465, 468, 469, 470, 473, 474] : List Nat) ++
  ([475, 478, 479, 480, 483, 484, 485, 486, 487, 490, 491, 492, 493, 494, 47, 66, 85, 104, 123, 142, 247, 254, 261, 268, 275, 282, 287, 294, 301, 306, 311, 318, 325, 330, 335, 342, 349, 354, 359, 364] : List Nat) ++
  ([369, 374, 379, 42, 43, 44, 45, 46, 61, 62, 63, 64, 65, 80, 81, 82, 83, 84, 99, 100, 101, 102, 103, 118, 119, 120, 121, 122, 137, 138, 139, 140, 141, 244, 245, 246, 249, 250, 251, 252] : List Nat) ++
  ([253, 256, 257, 258, 259, 260, 263, 264, 265, 266, 267, 270, 271, 272, 273, 274, 277, 278, 279, 280, 281, 284, 285, 286, 289, 290, 291, 292, 293, 296, 297, 298, 299, 300, 303, 304, 305, 308, 309, 310] : List Nat) ++
  ([313, 314, 315, 316, 317, 320, 321, 322, 323, 324, 327, 328, 329, 332, 333, 334, 337, 338, 339, 340, 341, 344, 345, 346, 347, 348, 351, 352, 353, 356, 357, 358, 361, 362, 363, 366, 367, 368, 371, 372] : List Nat) ++
  ([373, 376, 377, 378] : List Nat)
def dd (p : Str × Option Str) (x q : Str) (st : Stmt) (dv : List He.Dv) : He.DefD := { at_ := p, name := x, qual := q, params := defArgs st, body := defBody st, scope := defScope st, dfl := dv }
def fnT : List He.DefD := ([dd ("_law_start", none) "_law_start" "_law_start" sStart [], dd ("_law_draw", none) "_law_draw" "_law_draw" sDraw [], dd ("_law_pick", none) "_law_pick" "_law_pick" sPick [], dd ("_law_mixed", none) "_law_mixed" "_law_mixed" sMixed [], dd ("_law_t_some", none) "_law_t_some" "_law_t_some" sSome [], dd ("_law_t_names", none) "_law_t_names" "_law_t_names" sNames [], dd ("_law_t_rows", none) "_law_t_rows" "_law_t_rows" sRows [], dd ("_law_t_turned_rows", none) "_law_t_turned_rows" "_law_t_turned_rows" sTurned []] : List He.DefD) ++
  ([dd ("_law_t_key", none) "_law_t_key" "_law_t_key" sKey [], dd ("_law_t_tells", none) "_law_t_tells" "_law_t_tells" sTells [], dd ("_law_same", none) "_law_same" "_law_same" sSame [], dd ("_law_lot", none) "_law_lot" "_law_lot" sLot [], dd ("_law_bent_plans", none) "_law_bent_plans" "_law_bent_plans" sBentP [], dd ("_law_bent_worlds", none) "_law_bent_worlds" "_law_bent_worlds" sBentW [], dd ("_law_are_apart", none) "_law_are_apart" "_law_are_apart" sLawAp [], dd ("_law_plan_right", none) "_law_plan_right" "_law_plan_right" sPlanR []] : List He.DefD) ++
  ([dd ("law", none) "law" "law" sLaw [], dd ("is_integer", none) "is_integer" "is_integer" sIsInt [], dd ("is_list", none) "is_list" "is_list" sIsList [], dd ("is_pair", none) "is_pair" "is_pair" sIsPair [], dd ("is_name", none) "is_name" "is_name" sIsName [], dd ("is_one_of", none) "is_one_of" "is_one_of" sIsOne [], dd ("has_just", none) "has_just" "has_just" sHasJust [], dd ("is_parted", none) "is_parted" "is_parted" sIsParted []] : List He.DefD) ++
  ([dd ("first_bad", none) "first_bad" "first_bad" sFirst [], dd ("check_known", none) "check_known" "check_known" sCkK [], dd ("check_asked", none) "check_asked" "check_asked" sCkA [], dd ("check_both", none) "check_both" "check_both" sCkB [], dd ("check_lacking", none) "check_lacking" "check_lacking" sCkLack [], dd ("_are_integers", none) "_are_integers" "_are_integers" sAreInts [], dd ("_first_bad_row", none) "_first_bad_row" "_first_bad_row" sBadRow [], dd ("Table", some "__init__") "__init__" "Table.__init__" sInit []] : List He.DefD) ++
  ([dd ("Table", some "questions") "questions" "Table.questions" sQs [], dd ("Table", some "_dict_of") "_dict_of" "Table._dict_of" sDictOf [], dd ("Table", some "is_told") "is_told" "Table.is_told" sIsTold [], dd ("Table", some "plan") "plan" "Table.plan" sPlan [], dd ("Table", some "is_plan") "is_plan" "Table.is_plan" sIsPlan [], dd ("Table", some "found") "found" "Table.found" sFound [], dd ("Table", some "apart") "apart" "Table.apart" sApart [], dd ("Table", some "are_apart") "are_apart" "Table.are_apart" sAreAp []] : List He.DefD) ++
  ([dd ("Table", some "_is_world") "_is_world" "Table._is_world" sIsWorld [], dd ("Table", some "_places") "_places" "Table._places" sPlaces [], dd ("Table", some "_parting_rows") "_parting_rows" "Table._parting_rows" sParting [], dd ("Table", some "_plan_of") "_plan_of" "Table._plan_of" sPlanOf []] : List He.DefD)
def faT : List He.Fa := ([.glo "_law_start", .glo "_law_draw", .glo "_law_pick", .glo "_law_mixed", .glo "_law_t_some", .glo "_law_t_names", .glo "_law_t_rows", .glo "_law_t_turned_rows", .glo "_law_t_key", .glo "_law_t_tells", .glo "_law_same", .glo "_law_lot", .glo "_law_bent_plans", .glo "_law_bent_worlds", .glo "_law_are_apart", .glo "_law_plan_right"] : List He.Fa) ++
  ([.glo "law", .glo "is_integer", .glo "is_list", .glo "is_pair", .glo "is_name", .glo "is_one_of", .glo "has_just", .glo "is_parted", .glo "first_bad", .glo "check_known", .glo "check_asked", .glo "check_both", .glo "check_lacking", .glo "_are_integers", .glo "_first_bad_row", .glo "Table"] : List He.Fa) ++
  ([.free "list", .free "len", .free "int", .free "range", .free "dict", .free "tuple", .free "str", .free "bool", .free "isinstance", .free "all", .free "any", .free "enumerate", .free "zip", .int "LONGEST" 40, .str "SIGNS" "abcdefghijklmnopqrstuvwxyz0123456789.", .cls "Table"] : List He.Fa) ++
  ([.noat "Table" "_questions", .noat "Table" "_rows", .meth "Table" "questions", .meth "Table" "_dict_of", .meth "Table" "is_told", .meth "Table" "plan", .meth "Table" "is_plan", .meth "Table" "found", .meth "Table" "apart", .meth "Table" "are_apart", .meth "Table" "_is_world", .meth "Table" "_places", .meth "Table" "_parting_rows", .meth "Table" "_plan_of", .meth "Table" "__init__", .mkr "Table"] : List He.Fa)
/-- the defs that hold a def, a lambda -/
def tfT : List He.Defn := []
def csL (K : PySem.W.Frag) : List (Addr × Addr) := tfT.map (He.cT K)
def diffT (K : PySem.W.Frag) : Bool := decide ((tfT.map fun p => (He.cT K p).2).Nodup)
def obsK (g : Addr → Option Obj) : He.AlD × Bool := (He.obsD faT fnT (He.frT g asK), diffT (He.frT g asK) && He.tabsB g tfT (He.frT g asK))
structure SaysK (h : Heap) (K : PySem.W.Frag) : Prop where
  d : He.SaysD faT fnT K
  np : (tfT.map fun p => (He.cT K p).2).Nodup
  hd : ∀ p ∈ tfT, PySem.W.codeHdIn K (He.cT K p).1 (He.cT K p).2 = true
  out : ∀ p ∈ tfT, K.lookup (He.cT K p).2 = none
  empty : ∀ p ∈ tfT, h.get? (He.cT K p).2 = some { cls := .none, data := .fields #[] }
theorem saysK_of {h : Heap} (e : obsK h.get? = (He.valD fnT, true)) : SaysK h (He.frT h.get? asK) := by
  have e1 : He.obsD faT fnT (He.frT h.get? asK) = He.valD fnT := congrArg (fun z : He.AlD × Bool => z.1) e
  have e2 : (diffT (He.frT h.get? asK) && He.tabsB h.get? tfT (He.frT h.get? asK)) = true := congrArg (fun z : He.AlD × Bool => z.2) e
  obtain ⟨h1, h2⟩ := He.ba e2
  have key : ∀ p ∈ tfT, PySem.W.codeHdIn (He.frT h.get? asK) (He.cT (He.frT h.get? asK) p).1 (He.cT (He.frT h.get? asK) p).2 = true ∧ ∃ o, h.get? (He.cT (He.frT h.get? asK) p).2 = some o ∧ He.emptyTab o = true := fun p hp => by
    obtain ⟨h3, h4⟩ := He.ba (List.all_eq_true.mp h2 p hp)
    refine ⟨h3, ?_⟩
    cases q : h.get? (He.cT (He.frT h.get? asK) p).2 with
    | none => rw [q] at h4; cases h4
    | some o => rw [q] at h4; exact ⟨o, rfl, h4⟩
  exact ⟨e1, of_decide_eq_true h1, fun p hp => (key p hp).1, (fun p hp => by
    obtain ⟨_, o, q, z⟩ := key p hp
    exact He.frT_none q z), (fun p hp => by
    obtain ⟨_, o, q, z⟩ := key p hp
    rw [q, He.emptyTab_eq z])⟩
section
variable {h : Heap} {K : PySem.W.Frag}
theorem SaysK.hdC (c : SaysK h K) {p : Addr × Addr} (hp : p ∈ csL K) : PySem.W.codeHdIn K p.1 p.2 = true := by
  obtain ⟨q, hq, e⟩ := List.mem_map.mp hp
  rw [← e]
  exact c.hd q hq
theorem SaysK.outC (c : SaysK h K) {p : Addr × Addr} (hp : p ∈ csL K) : K.lookup p.2 = none := by
  obtain ⟨q, hq, e⟩ := List.mem_map.mp hp
  rw [← e]
  exact c.out q hq
theorem SaysK.emptyC (c : SaysK h K) {p : Addr × Addr} (hp : p ∈ csL K) : h.get? p.2 = some { cls := .none, data := .fields #[] } := by
  obtain ⟨q, hq, e⟩ := List.mem_map.mp hp
  rw [← e]
  exact c.empty q hq
end
def hookK : PySem.W.Hook where
  α := He.AlD × Bool
  obs := fun s => obsK s.heap.get?
  val := fun _ => (He.valD fnT, true)
  says := fun _ h => ∃ K : PySem.W.Frag, K.In h ∧ SaysK h K
  of := fun _ _ e => ⟨_, He.frT_in, saysK_of e⟩
  keeps := fun _ _ _ ⟨K, hK, c⟩ k => ⟨K, PySem.W.Frag.In.keeps hK k, ⟨c.d, c.np, c.hd, c.out, fun p hp => k _ _ (c.empty p hp)⟩⟩
def obT (s : PySem.W.SharedT) : He.AlD × Bool := obsK (HandSHeadRun.getT s)
theorem obT_eq (s : PySem.W.SharedT) : obT s = hookK.obs s.abs := by
  have e : HandSHeadRun.getT s = s.abs.heap.get? := funext fun a => HandSHeadRun.getT_eq s a
  unfold obT
  rw [e] <;> rfl
namespace HdR
open PySem PySem.W PySem.Calls PyProof.Rows
abbrev R : OpenRow := OpenLaw.row PySem.Challenge.rw_twoworlds_k02_whole_plans_or_worlds
abbrev qv : Program := view R.prog [46]
def names : List PySem.Str := (["_wall", "WorldError", "BadWorld", "BadKnown", "NoQuestion", "BadPlan", "BadAnswers", "BadRow", "UnlikeQuestions", "is_integer", "is_list", "is_pair", "is_name", "is_one_of", "has_just", "is_parted", "first_bad", "check_known", "check_asked", "check_both", "check_lacking", "Table", "_are_integers", "_first_bad_row", "_law_t_names", "_law_t_rows", "_law_t_turned_rows", "_law_t_some", "_law_t_key", "_law_t_tells"] : List PySem.Str) ++
  (["_law_start", "_law_draw", "_law_pick", "_law_mixed", "_law_same", "_law_lot", "_law_bent_plans", "_law_bent_worlds", "_law_are_apart", "_law_plan_right", "SIGNS", "LONGEST"] : List PySem.Str)
set_option maxHeartbeats 0 in
theorem run (w : World) : HandSHeadRun.RunEq R qv L2.TB.hookK L2.TB.obT 16000 names w := by
  intro os
  kernel_rfl
end HdR
end L2.TB
/-! dicts whose keys are of several kinds: found, read, stored -/
namespace L2.MK
open PySem PySem.Spec PyProof.Rows SeqAt
/-- the entries' keys -/
structure Ents (w : World) (h : Heap) (es : Array DictEntry) (ks : List NestedKey) : Prop where
  len : es.size = ks.length
  is_ : ∀ (i : Nat) (e : DictEntry) (k : NestedKey), es[i]? = some e → ks[i]? = some k → NestedIs h k e.key ∧ e.hash = k.hash w
  nd : ks.Nodup
  dp : ∀ k ∈ ks, k.depth ≤ 8
section
variable {prog : Program} {w : World} {A : Around} {E : Value → Shared → Prop} {s : Shared} {d : Addr} {o : Obj} {es : Array DictEntry} {ep : Nat} {ks : List NestedKey} {k : NestedKey} {key : Value}
theorem Ents.keyAt (he : Ents w s.heap es ks) {i : Nat} {e : DictEntry} (h : es[i]? = some e) : ∃ k, ks[i]? = some k ∧ NestedIs s.heap k e.key ∧ e.hash = k.hash w ∧ k.depth ≤ 8 := by
  have lt : i < ks.length := by rw [← he.len]; exact (Array.getElem?_eq_some_iff.mp h).1
  obtain ⟨a, b⟩ := he.is_ i e ks[i] h (List.getElem?_eq_getElem lt)
  exact ⟨_, List.getElem?_eq_getElem lt, a, b, he.dp _ (List.getElem_mem lt)⟩
theorem Ents.ent (he : Ents w s.heap es ks) {i : Nat} (h : ks[i]? = some k) : ∃ e, es[i]? = some e ∧ NestedIs s.heap k e.key ∧ e.hash = k.hash w := by
  have lt : i < es.size := by rw [he.len]; exact (List.getElem?_eq_some_iff.mp h).1
  obtain ⟨a, b⟩ := he.is_ i es[i] k (Array.getElem?_eq_getElem lt) h
  exact ⟨_, Array.getElem?_eq_getElem lt, a, b⟩
/-- a stored key asked whether it is key -/
theorem eq_key (hu : A.units + 8 < cLine) {x y : NestedKey} {u v : Value} {Q : Bool → Shared → Prop} (hx : NestedIs s.heap x u) (hy : NestedIs s.heap y v) (dx : x.depth ≤ 8) (h : Q (decide (x = y)) s) : wpAny (model prog w) A (eqBool u v) Q E s := by
  rw [NestedKey.decide_eq] at h
  exact eqAt_key x y A s u v hx hy (by omega) prog w E Q h
theorem nk_tell {stored : List Value} {Q : Bool → Shared → Prop} (hk : NestedIs s.heap k key) (hd8 : k.depth ≤ 8) (hst : ∀ v ∈ stored, ∃ k' : NestedKey, NestedIs s.heap k' v ∧ k'.depth ≤ 8) (h : Q false s) : wpAny (model prog w) A (tableMayTell key stored) Q E s := by
  unfold tableMayTell
  by_cases h0 : stored.isEmpty = true
  · rw [if_pos h0]; exact wpAny_pure h
  rw [if_neg h0]
  refine wpAny_bind (quiet_key k key 8 s hk hd8 A E _ ?_)
  rw [if_neg (by decide)]
  refine wpAny_bind (wpAny_forIn_list _ (fun rest r s' => s' = s ∧ r = (none, ()) ∧ ∀ v ∈ rest, ∃ k' : NestedKey, NestedIs s.heap k' v ∧ k'.depth ≤ 8) _ ?_ ?_ _ _ ⟨rfl, rfl, hst⟩)
  · rintro x rest r s' ⟨rfl, rfl, al⟩
    obtain ⟨k', hx, hd⟩ := al x (by simp)
    refine wpAny_bind (quiet_key k' x 8 s' hx hd A E _ ?_)
    rw [if_neg (by decide)]
    exact wpAny_pure ⟨rfl, rfl, fun v hv => al v (List.mem_cons_of_mem _ hv)⟩
  · rintro r s' ⟨rfl, rfl, _⟩
    exact wpAny_pure h
theorem places_mem {n : Nat} {f : Nat → Option Int} {h : Int} {i : Nat} : i ∈ placesWithHash n f h ↔ i < n ∧ f i = some h := by
  unfold placesWithHash
  rw [List.mem_filter, List.mem_range, beq_iff_eq]
theorem places_nodup {n : Nat} {f : Nat → Option Int} {h : Int} : (placesWithHash n f h).Nodup := List.Pairwise.filter _ List.nodup_range
/-- the general walk, behind the looks at the key -/
theorem fin_ {Q : Option Nat → Shared → Prop} (hu : A.units + 8 < cLine) (ho : s.heap.get? d = some o) (hd : o.data = .dict es ep) (he : Ents w s.heap es ks) (hk : NestedIs s.heap k key) (hd8 : k.depth ≤ 8) (hnone : k ∉ ks → Q none s) (hsome : ∀ j, ks[j]? = some k → Q (some j) s)
    (pm : ∀ {i : Nat}, i ∈ placesWithHash es.size (fun i => es[i]?.map (·.hash)) (k.hash w) → ∃ e k', es[i]? = some e ∧ ks[i]? = some k' ∧ NestedIs s.heap k' e.key ∧ e.hash = k.hash w ∧ k'.depth ≤ 8)
    (mp : ∀ j : Nat, ks[j]? = some k → j ∈ placesWithHash es.size (fun i => es[i]?.map (·.hash)) (k.hash w)) (none_of : (∀ j : Nat, ks[j]? ≠ some k) → k ∉ ks) (one : ∀ {i j : Nat}, ks[i]? = some k → ks[j]? = some k → i = j)
    (all_st : ∀ v ∈ (placesWithHash es.size (fun i => es[i]?.map (·.hash)) (k.hash w)).filterMap (fun i => es[i]?.map (·.key)), ∃ k' : NestedKey, NestedIs s.heap k' v ∧ k'.depth ≤ 8) :
    wpAny (model prog w) A (do
      let tells ← if (placesWithHash es.size (fun i => es[i]?.map (·.hash)) (k.hash w)).filterMap (fun i => es[i]?.map (·.key)) == [key] then pure false else tableMayTell key ((placesWithHash es.size (fun i => es[i]?.map (·.hash)) (k.hash w)).filterMap (fun i => es[i]?.map (·.key)))
      if tells && ((placesWithHash es.size (fun i => es[i]?.map (·.hash)) (k.hash w)).filterMap (fun i => es[i]?.map (·.key))).length ≥ 2 then unsupported "dict.find:order-among-keys-of-one-hash"
      let mut hit : Option Nat := none
      for i in placesWithHash es.size (fun i => es[i]?.map (·.hash)) (k.hash w) do
        if let some e := es[i]? then
          if e.hash == k.hash w then
            let before ← dictEpoch d (keyPart key)
            let same ← eqBool e.key key
            if (← dictEpoch d (keyPart key)) != before then unsupported "dict.changed-during-lookup"
            if same then
              if hit.isSome then unsupported "dict.find:order-among-keys-of-one-hash"
              rule "dict.find.hit"
              if ((placesWithHash es.size (fun i => es[i]?.map (·.hash)) (k.hash w)).filterMap (fun i => es[i]?.map (·.key))).length < 2 then return some i
              hit := some i
            else
              rule "dict.find.same-hash-other-key"
              if tells && !(0 ≤ k.hash w && k.hash w < 32) then unsupported "dict.find:asked-again-or-not-hangs-on-the-table"
      return hit : Sem (Option Nat)) Q E s := by
  by_cases hone : ((placesWithHash es.size (fun i => es[i]?.map (·.hash)) (k.hash w)).filterMap (fun i => es[i]?.map (·.key)) == [key]) = true <;>
  (dsimp only; first | rw [if_pos hone] | rw [if_neg hone]) <;> (first | refine wpAny_bind (wpAny_pure ?_) | refine wpAny_bind (nk_tell hk hd8 all_st ?_)) <;> (
    try dsimp only
    rw [if_neg (by simp)]
    refine wpAny_bind (wpAny_forIn_list _ (fun rest b s' => s' = s ∧ ∃ hit, b = (none, hit) ∧ rest.Nodup ∧ (∀ i ∈ rest, i ∈ placesWithHash es.size (fun i => es[i]?.map (·.hash)) (k.hash w)) ∧
      ((hit = none ∧ ∀ j, ks[j]? = some k → j ∈ rest) ∨ ∃ j, hit = some j ∧ ks[j]? = some k ∧ j ∉ rest)) _ ?_ ?_ _ _ ⟨rfl, none, rfl, places_nodup, fun _ h => h, .inl ⟨rfl, mp⟩⟩)
    · rintro x rest b s' ⟨rfl, hit, rfl, nd, sub, hH⟩
      obtain ⟨e, k', ee, ek, hx, eh, dk⟩ := pm (sub x (by simp))
      rw [List.nodup_cons] at nd
      have sub' : ∀ i ∈ rest, i ∈ placesWithHash es.size (fun i => es[i]?.map (·.hash)) (k.hash w) := fun i hi => sub i (List.mem_cons_of_mem _ hi)
      rw [ee]
      dsimp only
      rw [if_pos (by rw [eh]; exact beq_self_eq_true _)]
      refine wpAny_bind (wpAny_dictEpoch ho hd (wpAny_bind (eq_key hu hx hk dk (wpAny_bind (wpAny_dictEpoch ho hd ?_)))))
      show wpAny _ _ (if (ep != ep) = true then _ else _) _ E _
      rw [if_neg (by simp)]
      by_cases hkk : k' = k
      · subst hkk
        rw [decide_eq_true rfl]
        rcases hH with ⟨rfl, al⟩ | ⟨j, rfl, hj, nj⟩
        · rw [if_pos rfl, if_neg (by simp)]
          refine wpAny_bind (wpAny_rule ?_)
          split
          · exact wpAny_pure (wpAny_pure (hsome x ek))
          · exact wpAny_pure ⟨rfl, some x, rfl, nd.2, sub', .inr ⟨x, rfl, ek, nd.1⟩⟩
        · exact absurd (by rw [one hj ek]; simp) nj
      · rw [decide_eq_false hkk, if_neg (by simp)]
        refine wpAny_bind (wpAny_rule ?_)
        rw [if_neg (by simp)]
        refine wpAny_pure ⟨rfl, hit, rfl, nd.2, sub', ?_⟩
        rcases hH with ⟨rfl, al⟩ | ⟨j, rfl, hj, nj⟩
        · refine .inl ⟨rfl, fun j hj => ?_⟩
          rcases List.mem_cons.mp (al j hj) with z | z
          · rw [z, ek] at hj; exact absurd (Option.some.inj hj) hkk
          · exact z
        · exact .inr ⟨j, rfl, hj, fun z => nj (List.mem_cons_of_mem _ z)⟩
    · rintro b s' ⟨rfl, hit, rfl, _, _, hH⟩
      rcases hH with ⟨rfl, al⟩ | ⟨j, rfl, hj, _⟩
      · exact wpAny_pure (hnone (none_of fun j hj => by cases al j hj))
      · exact wpAny_pure (hsome j hj))
/-- key is looked for -/
theorem nk_find {Q : Option Nat → Shared → Prop} (hu : A.units + 8 < cLine) (hk : NestedIs s.heap k key) (hd8 : k.depth ≤ 8) (ho : s.heap.get? d = some o) (hd : o.data = .dict es ep) (he : Ents w s.heap es ks) (hnone : k ∉ ks → Q none s) (hsome : ∀ j, ks[j]? = some k → Q (some j) s) :
    wpAny (model prog w) A (dictFind d key (k.hash w)) Q E s := by
  have pm : ∀ {i : Nat}, i ∈ placesWithHash es.size (fun i => es[i]?.map (·.hash)) (k.hash w) → ∃ e k', es[i]? = some e ∧ ks[i]? = some k' ∧ NestedIs s.heap k' e.key ∧ e.hash = k.hash w ∧ k'.depth ≤ 8 := fun {i} hi => by
    obtain ⟨lt, eq⟩ := places_mem.mp hi
    obtain ⟨e, ee, eh⟩ := Option.map_eq_some_iff.mp eq
    obtain ⟨k', a, b, c, d⟩ := he.keyAt ee
    exact ⟨e, k', ee, a, b, eh, d⟩
  have mp : ∀ j, ks[j]? = some k → j ∈ placesWithHash es.size (fun i => es[i]?.map (·.hash)) (k.hash w) := fun j hj => by
    obtain ⟨e, ee, _, eh⟩ := he.ent hj
    exact places_mem.mpr ⟨(Array.getElem?_eq_some_iff.mp ee).1, by rw [ee, Option.map_some, eh]⟩
  have one : ∀ {i j : Nat}, ks[i]? = some k → ks[j]? = some k → i = j := fun {i j} a b => (List.getElem?_inj (List.getElem?_eq_some_iff.mp a).1 he.nd).mp (a.trans b.symm)
  have none_of : (∀ j, ks[j]? ≠ some k) → k ∉ ks := fun h m => by
    obtain ⟨j, hj⟩ := List.mem_iff_getElem?.mp m
    exact h j hj
  have plain : wpAny (model prog w) A (dictWalkPlain d key (k.hash w) es (placesWithHash es.size (fun i => es[i]?.map (·.hash)) (k.hash w))) Q E s := by
    unfold dictWalkPlain
    refine wpAny_bind (wpAny_forIn_list _ (fun rest b s' => s' = s ∧ b = (none, ()) ∧ (∀ i ∈ rest, i ∈ placesWithHash es.size (fun i => es[i]?.map (·.hash)) (k.hash w)) ∧ ∀ j, ks[j]? = some k → j ∈ rest) _ ?_ ?_ _ _ ⟨rfl, rfl, fun _ h => h, mp⟩)
    · rintro x rest b s' ⟨rfl, rfl, sub, al⟩
      obtain ⟨e, k', ee, ek, hx, eh, dk⟩ := pm (sub x (by simp))
      rw [ee]
      dsimp only
      rw [if_pos (by rw [eh]; exact beq_self_eq_true _)]
      refine wpAny_bind (wpAny_dictEpoch ho hd (wpAny_bind (eq_key hu hx hk dk (wpAny_bind (wpAny_dictEpoch ho hd ?_)))))
      show wpAny _ _ (if (ep != ep) = true then _ else _) _ E _
      rw [if_neg (by simp)]
      by_cases hkk : k' = k
      · subst hkk
        rw [decide_eq_true rfl]
        exact wpAny_bind (wpAny_rule (wpAny_pure (wpAny_pure (hsome x ek))))
      · rw [decide_eq_false hkk]
        refine wpAny_bind (wpAny_rule (wpAny_pure ⟨rfl, rfl, fun i hi => sub i (List.mem_cons_of_mem _ hi), fun j hj => ?_⟩))
        rcases List.mem_cons.mp (al j hj) with z | z
        · rw [z, ek] at hj; exact absurd (Option.some.inj hj) hkk
        · exact z
    · rintro b s' ⟨rfl, rfl, _, al⟩
      exact wpAny_pure (hnone (none_of fun j hj => by cases al j hj))
  have all_st : ∀ v ∈ (placesWithHash es.size (fun i => es[i]?.map (·.hash)) (k.hash w)).filterMap (fun i => es[i]?.map (·.key)), ∃ k' : NestedKey, NestedIs s.heap k' v ∧ k'.depth ≤ 8 := fun v hv => by
    obtain ⟨i, hi, ev⟩ := List.mem_filterMap.mp hv
    obtain ⟨e, k', ee, _, hx, _, dk⟩ := pm hi
    rw [ee] at ev
    obtain rfl : e.key = v := by simpa using ev
    exact ⟨k', hx, dk⟩
  have keys_in : ∀ e ∈ es, ∃ k' : NestedKey, NestedIs s.heap k' e.key ∧ e.hash = k'.hash w := fun e hm => by
    obtain ⟨i, hi, rfl⟩ := Array.mem_iff_getElem.mp hm
    obtain ⟨k', _, a, b, _⟩ := he.keyAt (Array.getElem?_eq_getElem hi)
    exact ⟨k', a, b⟩
  unfold dictFind
  try with_reducible refine wpAny_holding ?_
  refine wpAny_bind (wpAny_dictEntries ho hd ?_)
  dsimp only
  by_cases hall : ((key :: (placesWithHash es.size (fun i => es[i]?.map (·.hash)) (k.hash w)).filterMap (fun i => es[i]?.map (·.key))).all carriedByValue) = true
  · rw [if_pos hall]
    split
    next x t =>
      split
      next hs =>
        cases hk with
        | text x t =>
          unfold foundByValue
          cases hf : es.findIdx? (fun e => e.key.isStr x) with
          | none =>
            refine wpAny_pure (hnone (none_of fun j hj => ?_))
            obtain ⟨e, ee, ke, _⟩ := he.ent hj
            have z := Array.findIdx?_eq_none_iff.mp hf e (Array.mem_of_getElem? ee)
            generalize e.key = u at ke z
            cases ke
            simp [Value.isStr] at z
          | some i =>
            obtain ⟨lt, yes, _⟩ := Array.findIdx?_eq_some_iff_getElem.mp hf
            obtain ⟨k', ek, hx, _, dk⟩ := he.keyAt (Array.getElem?_eq_getElem lt)
            have e2 : k' = .text x := by
              generalize es[i].key = u at yes hx
              cases hx with
              | text y t2 => simp [Value.isStr] at yes; rw [yes]
              | none => cases yes
              | bool _ => cases yes
              | int _ _ => cases yes
              | tup _ _ _ _ => cases yes
            subst e2
            simp only [Array.getElem?_eq_getElem lt]
            refine wpAny_bind (wpAny_dictEpoch ho hd (wpAny_bind (eq_key hu hx (.text x t) dk (wpAny_bind (wpAny_dictEpoch ho hd ?_)))))
            show wpAny _ _ (if (ep != ep) = true then _ else _) _ E _
            rw [if_neg (by simp), decide_eq_true rfl]
            exact wpAny_bind (wpAny_rule (wpAny_pure (hsome i ek)))
      next => exact plain
    next => exact plain
  · rw [if_neg hall]
    have hk' := hk
    have hany : ¬ (es.any fun e => e.key == key && e.hash != k.hash w) = true := fun z => by
      obtain ⟨i, hi, q⟩ := Array.any_eq_true.mp z
      obtain ⟨k', a, b⟩ := keys_in es[i] (Array.getElem_mem hi)
      rw [Bool.and_eq_true, beq_iff_eq, bne_iff_ne] at q
      rw [q.1] at a
      exact q.2 (by rw [b, NestedIs.inj _ _ _ a hk])
    cases hk
    case text x t =>
      dsimp only
      rw [if_neg (fun hs => hall (by
        rw [List.all_cons, Bool.and_eq_true]
        refine ⟨rfl, List.all_eq_true.mpr fun v hv => ?_⟩
        obtain ⟨i, hi, ev⟩ := List.mem_filterMap.mp hv
        obtain ⟨e, k', ee, _, hx, _, dk⟩ := pm hi
        rw [ee] at ev
        obtain rfl : e.key = v := by simpa using ev
        have z := Array.all_eq_true_iff_forall_mem.mp hs e (Array.mem_of_getElem? ee)
        generalize e.key = u at z
        cases u <;> first | rfl | cases z))]
      exact fin_ hu ho hd he hk' hd8 hnone hsome pm mp none_of one all_st
    case tup h1 h2 h3 h4 =>
      dsimp only
      rw [if_neg hany]
      exact fin_ hu ho hd he hk' hd8 hnone hsome pm mp none_of one all_st
    all_goals (dsimp only; exact fin_ hu ho hd he hk' hd8 hnone hsome pm mp none_of one all_st)
end
end L2.MK
/-! dicts whose keys are of several kinds: got, stored anew, displayed -/
namespace L2.MK
open PySem PySem.Spec PyProof.Rows SeqAt
section
variable {prog : Program} {w : World} {A : Around} {E : Value → Shared → Prop} {s : Shared} {d : Addr} {o : Obj} {es : Array DictEntry} {ep : Nat} {ks : List NestedKey} {k : NestedKey} {key : Value}
theorem nk_get {Q : Option Value → Shared → Prop} (hu : A.units + 8 < cLine) (hk : NestedIs s.heap k key) (hd8 : k.depth ≤ 8) (ho : s.heap.get? d = some o) (hd : o.data = .dict es ep) (he : Ents w s.heap es ks)
    (hnone : k ∉ ks → Q none { s with toks := s.toks + k.draws }) (hsome : ∀ (j : Nat) (e : DictEntry), ks[j]? = some k → es[j]? = some e → Q (some e.val) { s with toks := s.toks + k.draws }) : wpAny (model prog w) A (dictGet d key) Q E s := by
  unfold dictGet
  try with_reducible refine wpAny_holding ?_
  refine wpAny_bind (pyHash_key k key A s _ hk (by omega) ?_)
  refine wpAny_bind (nk_find (s := { s with toks := s.toks + k.draws }) hu hk hd8 ho hd he (fun h => wpAny_pure (hnone h)) fun j hj => ?_)
  obtain ⟨e, ee, _⟩ := he.ent hj
  refine wpAny_bind (wpAny_dictEntries (s := { s with toks := s.toks + k.draws }) ho hd ?_)
  rw [ee]
  exact wpAny_pure (hsome j e hj ee)
/-- the dict at d in h has these entries -/
def DictIs (h : Heap) (d : Addr) (es : Array DictEntry) : Prop := ∃ o ep, h.get? d = some o ∧ o.ExactDict ∧ o.data = .dict es ep
theorem nested_but {h h' : Heap} (hd : DictIs h d es) (hs : Heap.SameBut d h h') {v : Value} (x : NestedIs h k v) : NestedIs h' k v := NestedIs.at (fun a o vs n e q => by
  rw [hs.2 a (fun z => by
    subst z
    obtain ⟨o2, ep, e2, _, q2⟩ := hd
    rw [e] at e2
    cases e2
    rw [q] at q2
    cases q2)]
  exact e) k v x
theorem ents_but {h h' : Heap} {es0 : Array DictEntry} (hd : DictIs h d es0) (hs : Heap.SameBut d h h') (x : Ents w h es ks) : Ents w h' es ks := ⟨x.len, fun i e k a b => ⟨nested_but hd hs (x.is_ i e k a b).1, (x.is_ i e k a b).2⟩, x.nd, x.dp⟩
theorem nk_setNew {v : Value} {Q : Unit → Shared → Prop} (hu : A.units + 8 < cLine) (hk : NestedIs s.heap k key) (hd8 : k.depth ≤ 8) (hd : DictIs s.heap d es) (he : Ents w s.heap es ks) (hn : k ∉ ks) (hz : es.size ≤ sizeLine)
    (hQ : ∀ h', DictIs h' d (es.push ⟨k.hash w, key, v⟩) → Heap.SameBut d s.heap h' → Q () { s with heap := h', toks := s.toks + k.draws }) : wpAny (model prog w) A (dictSet d key v) Q E s := by
  obtain ⟨o, ep, ho, hc, hdt⟩ := hd
  unfold dictSet
  try with_reducible refine wpAny_holding ?_
  refine wpAny_bind (pyHash_key k key A s _ hk (by omega) ?_)
  unfold dictSetHashed
  try with_reducible refine wpAny_holding ?_
  refine wpAny_bind (nk_find (s := { s with toks := s.toks + k.draws }) hu hk hd8 ho hdt he (fun _ => ?_) fun j hj => absurd (List.mem_of_getElem? hj) hn)
  exact wpAny_bind (wpAny_rule (wpAny_updateDictKeys (hz := hz) (s := { s with toks := s.toks + k.draws }) ho hdt (hQ _ ⟨_, ep + 1, Heap.get?_update_self _ ho (Obj.isFreed_of_dict (Obj.data_mapDictKeys hdt _)), hc.mapDictKeys _, Obj.data_mapDictKeys hdt _⟩ (Heap.SameBut.update ..))))
theorem Ents.push {h : Heap} (he : Ents w h es ks) {v : Value} (hk : NestedIs h k key) (hd8 : k.depth ≤ 8) (hn : k ∉ ks) : Ents w h (es.push ⟨k.hash w, key, v⟩) (ks ++ [k]) := by
  refine ⟨by rw [Array.size_push, List.length_append, he.len]; rfl, fun i e k' a b => ?_, ?_, fun x hx => ?_⟩
  · by_cases hi : i < es.size
    · rw [Array.getElem?_push_lt hi] at a
      rw [List.getElem?_append_left (by rw [← he.len]; exact hi)] at b
      exact he.is_ i e k' (by rw [Array.getElem?_eq_getElem hi]; exact a) b
    · have l1 := (Array.getElem?_eq_some_iff.mp a).1
      rw [Array.size_push] at l1
      have e1 : i = es.size := by omega
      subst e1
      rw [Array.getElem?_push_size] at a
      rw [he.len, List.getElem?_append_right (Nat.le_refl _), Nat.sub_self] at b
      obtain rfl := Option.some.inj a
      obtain rfl := Option.some.inj b
      exact ⟨hk, rfl⟩
  · rw [List.nodup_append]
    exact ⟨he.nd, by simp, fun x hx y hy => by
      rw [List.mem_singleton] at hy
      subst hy
      exact fun z => hn (z ▸ hx)⟩
  · rcases List.mem_append.mp hx with hx | hx
    · exact he.dp x hx
    · rw [List.mem_singleton] at hx; rw [hx]; exact hd8
/-- new keys, one after the other -/
theorem nk_storeAll (hu : A.units + 8 < cLine) : ∀ (vs : List (Value × Value)) (rest acc : List NestedKey) (es : Array DictEntry) (s : Shared) (Q : PUnit → Shared → Prop), DictIs s.heap d es → Ents w s.heap es acc → rest.length = vs.length →
    (∀ (i : Nat) (k : NestedKey) (p : Value × Value), rest[i]? = some k → vs[i]? = some p → NestedIs s.heap k p.1) → (acc ++ rest).Nodup → (∀ k ∈ rest, k.depth ≤ 8) → es.size + vs.length ≤ sizeLine →
    (∀ (h' : Heap) (es' : Array DictEntry) (t : Nat), DictIs h' d es' → es'.toList = es.toList ++ List.zipWith (fun (k : NestedKey) (p : Value × Value) => ⟨k.hash w, p.1, p.2⟩) rest vs → Heap.SameBut d s.heap h' → Q PUnit.unit { s with heap := h', toks := t }) →
    wpAny (model prog w) A (forIn vs PUnit.unit fun (x : Value × Value) (_ : PUnit) => (do dictSet d x.1 x.2; pure (ForInStep.yield PUnit.unit) : Sem (ForInStep PUnit))) Q E s
  | [], rest, acc, es, s, Q, hd, he, hl, _, _, _, _, hQ => by
    rw [List.forIn_nil]
    have e : rest = [] := List.length_eq_zero_iff.mp hl
    subst e
    exact wpAny_pure (hQ s.heap es s.toks hd (by simp) (Heap.SameBut.refl _ _))
  | (key, v) :: vs, [], acc, es, s, Q, hd, he, hl, _, _, _, _, hQ => by simp at hl
  | (key, v) :: vs, k :: rest, acc, es, s, Q, hd, he, hl, al, nd, dp, hz, hQ => by
    rw [List.length_cons] at hz
    have hk : NestedIs s.heap k key := al 0 k (key, v) rfl rfl
    have hn : k ∉ acc := fun m => by
      rw [List.nodup_append] at nd
      exact nd.2.2 k m k (by simp) rfl
    rw [List.forIn_cons]
    refine wpAny_bind (wpAny_bind (nk_setNew hu hk (dp k (by simp)) hd he hn (by omega) fun h1 hd1 hs1 => wpAny_pure ?_))
    have he1 := (ents_but hd hs1 he).push (v := v) (nested_but hd hs1 hk) (dp k (by simp)) hn
    refine nk_storeAll hu vs rest (acc ++ [k]) _ _ Q hd1 he1 (by simpa using hl) (fun i k' p a b => nested_but hd hs1 (al (i + 1) k' p (by simpa using a) (by simpa using b))) (by simpa using nd) (fun x hx => dp x (by simp [hx])) (by rw [Array.size_push]; omega) fun h' es' t hd' e' hs' => ?_
    exact hQ h' es' t hd' (by rw [e']; simp) (hs1.trans hs')
/-- {k: v, ..} -/
theorem nk_display {env : Env} {keys : List (Option Expr)} {values : List Expr} {pos : Pos} {Q : Value → Shared → Prop} (hu : A.units + 8 < cLine) (hall : keys.all (·.isSome) = true) (hl : keys.length = values.length) (h0 : keys ≠ []) (hlen : keys.length ≤ 15)
    (h : wpAny (model prog w) A (evalPairs (pairTrees keys values env pos)) (fun vs s1 => ∃ rest : List NestedKey, DictIs s1.heap s.heap.objs.size #[] ∧ rest.length = vs.length ∧ vs.length ≤ 15 ∧ (∀ (i : Nat) (k : NestedKey) (p : Value × Value), rest[i]? = some k → vs[i]? = some p → NestedIs s1.heap k p.1) ∧ rest.Nodup ∧ (∀ k ∈ rest, k.depth ≤ 8) ∧
      ∀ (h' : Heap) (es' : Array DictEntry) (t : Nat), DictIs h' s.heap.objs.size es' → es'.toList = List.zipWith (fun (k : NestedKey) (p : Value × Value) => ⟨k.hash w, p.1, p.2⟩) rest vs → Heap.SameBut s.heap.objs.size s1.heap h' → Q (.ref s.heap.objs.size) { s1 with heap := h', toks := t }) E
      { s with heap := s.heap.push { cls := .type "dict", data := .dict #[] } }) : wpAny (model prog w) A (eval (.Dict keys values pos) env) Q E s := by
  have hn := pairTrees_length keys values env pos hall hl
  rw [arm_eval_Dict, zip_pairTrees keys values env pos hall hl, dictDisplay_pairs (pairTrees keys values env pos) (fun he => by
    rw [he] at hn
    exact h0 (List.length_eq_zero_iff.mp hn.symm)) (by omega)]
  refine wpAny_bind (wpAny_standAt (wpAny_bind ?_))
  unfold subDict
  refine wpAny_bind (wpAny_alloc ?_)
  refine wpAny_bind (wpAny_holding ?_)
  rw [if_pos (by omega)]
  refine wpAny_bind (wpAny_mono h (fun vs s1 hh => ?_) fun _ _ e => e)
  obtain ⟨rest, hd, hrl, h15, al, nd, dp, hQ⟩ := hh
  refine wpAny_holding ?_
  refine wpAny_bind (nk_storeAll hu vs rest [] #[] s1 _ hd ⟨rfl, fun i e k a _ => by simp at a, List.nodup_nil, fun _ z => by cases z⟩ hrl al (by simpa using nd) dp (by rw [sizeLine_eq]; simp; omega) fun h' es' t hd' e' hs' => wpAny_pure (wpAny_pure (wpAny_pure (hQ h' es' t hd' (by simpa using e') hs'))))
end
end L2.MK
/-! dicts whose keys are of several kinds, as objects of the layer -/
namespace L2.MK
open PySem PySem.Spec PyProof.Rows SeqAt
/-- a key as a value -/
inductive KeyH (H : Hp) : NestedKey → V → Prop
  | non : KeyH H .none .non
  | bl (b : Bool) : KeyH H (.num (if b = true then 1 else 0)) (.bl b)
  | int (i : Int) : KeyH H (.num i) (.int i)
  | str (x : Str) : KeyH H (.text x) (.str x)
  | tup {a : Addr} {vs : List V} {ks : List NestedKey} (h : H a = some (.tup vs)) (len : vs.length = ks.length) (al : ∀ (i : Nat) (v : V) (k : NestedKey), vs[i]? = some v → ks[i]? = some k → KeyH H k v) : KeyH H (.tup ks) (.ref a)
theorem KeyH.mono {H H' : Hp} {k : NestedKey} {v : V} (x : KeyH H k v) (s : ∀ a vs, H a = some (.tup vs) → H' a = some (.tup vs)) : KeyH H' k v := by
  induction x with
  | non => exact .non
  | bl b => exact .bl b
  | int i => exact .int i
  | str x => exact .str x
  | tup h len _ ih => exact .tup (s _ _ h) len ih
theorem all_is {h : Heap} : ∀ {vs : List V} {its : List Value} {ks : List NestedKey}, Vals vs its → vs.length = ks.length → (∀ (i : Nat) (v : V) (k : NestedKey), vs[i]? = some v → ks[i]? = some k → ∀ u, RelV v u → NestedIs h k u) → NestedAll h ks its
  | _, _, [], .nil, _, _ => .nil
  | _, _, k :: ks, .cons r t, l, al => .cons (al 0 _ k rfl rfl _ r) (all_is t (by simpa using l) fun i v k a b => al (i + 1) v k (by simpa using a) (by simpa using b))
  | _, _, [], .cons _ _, l, _ => by simp at l
  | _, _, _ :: _, .nil, l, _ => by simp at l
theorem KeyH.is {P : Program} {w : World} {H : Hp} {h : Heap} {k : NestedKey} {v : V} (ok : HOk P w H h) (x : KeyH H k v) : ∀ {u : Value}, RelV v u → NestedIs h k u := by
  induction x with
  | non => intro u r; cases (show u = Value.none from r); exact .none
  | bl b => intro u r; cases (show u = Value.bool b from r); exact .bool rfl
  | int i => intro u r; obtain ⟨t, rfl⟩ := r; exact .int i t
  | str x => intro u r; obtain ⟨t, rfl⟩ := r; exact .text x t
  | @tup a vs ks e len _ ih =>
    intro u r
    cases (show u = Value.ref a from r)
    obtain ⟨_, its, rv, o, ho, hc, n, hd⟩ := ok a _ e
    exact .tup ho hc hd (by simpa using all_is rv len fun i v k a b u r => ih i v k a b r)
/-- the dict at d: keys ks as the values kvs.1, answers kvs.2 -/
def DX (w : World) (d : Addr) (ks : List NestedKey) (kvs : List (V × V)) : HO := .ext fun h => (d == sysModules) = false ∧ ks.length = kvs.length ∧ ks.length ≤ sizeLine ∧ ∃ es : Array DictEntry, DictIs h d es ∧ es.size = ks.length ∧
  ∀ (i : Nat) (e : DictEntry) (k : NestedKey) (p : V × V), es[i]? = some e → ks[i]? = some k → kvs[i]? = some p → e.hash = k.hash w ∧ RelV p.1 e.key ∧ RelV p.2 e.val
/-- the keys are so in H -/
structure MixK (H : Hp) (ks : List NestedKey) (kvs : List (V × V)) : Prop where
  is_ : ∀ (i : Nat) (k : NestedKey) (p : V × V), ks[i]? = some k → kvs[i]? = some p → KeyH H k p.1
  nd : ks.Nodup
  dp : ∀ k ∈ ks, k.depth ≤ 8
theorem MixK.mono {H H' : Hp} {ks : List NestedKey} {kvs : List (V × V)} (x : MixK H ks kvs) (s : ∀ a vs, H a = some (.tup vs) → H' a = some (.tup vs)) : MixK H' ks kvs := ⟨fun i k p a b => (x.is_ i k p a b).mono s, x.nd, x.dp⟩
theorem dx_rd {P : Program} {w : World} {H : Hp} {h : Heap} {d : Addr} {ks : List NestedKey} {kvs : List (V × V)} (ok : HOk P w H h) (e : Rd H d (DX w d ks kvs)) : (d == sysModules) = false ∧ ks.length = kvs.length ∧ ks.length ≤ sizeLine ∧ ∃ es : Array DictEntry, DictIs h d es ∧ es.size = ks.length ∧
    ∀ (i : Nat) (e : DictEntry) (k : NestedKey) (p : V × V), es[i]? = some e → ks[i]? = some k → kvs[i]? = some p → e.hash = k.hash w ∧ RelV p.1 e.key ∧ RelV p.2 e.val := (e.ok ok).1
theorem dx_ents {P : Program} {w : World} {H : Hp} {h : Heap} {ks : List NestedKey} {kvs : List (V × V)} {es : Array DictEntry} (ok : HOk P w H h) (m : MixK H ks kvs) (hl : ks.length = kvs.length) (hz : es.size = ks.length)
    (al : ∀ (i : Nat) (e : DictEntry) (k : NestedKey) (p : V × V), es[i]? = some e → ks[i]? = some k → kvs[i]? = some p → e.hash = k.hash w ∧ RelV p.1 e.key ∧ RelV p.2 e.val) : Ents w h es ks := by
  refine ⟨hz, fun i e k a b => ?_, m.nd, m.dp⟩
  have lt : i < kvs.length := by rw [← hl]; exact (List.getElem?_eq_some_iff.mp b).1
  obtain ⟨h1, h2, _⟩ := al i e k kvs[i] a b (List.getElem?_eq_getElem lt)
  exact ⟨(m.is_ i k _ b (List.getElem?_eq_getElem lt)).is ok h2, h1⟩
theorem dx_new {P : Program} {w : World} {H : Hp} {h : Heap} {d : Addr} {ks : List NestedKey} {kvs : List (V × V)} {es : Array DictEntry} (hd : (d == sysModules) = false) (hl : ks.length = kvs.length) (hle : ks.length ≤ sizeLine) (hi : DictIs h d es) (hz : es.size = ks.length)
    (al : ∀ (i : Nat) (e : DictEntry) (k : NestedKey) (p : V × V), es[i]? = some e → ks[i]? = some k → kvs[i]? = some p → e.hash = k.hash w ∧ RelV p.1 e.key ∧ RelV p.2 e.val) : ObjOk P w H h d (DX w d ks kvs) := by
  refine ⟨⟨hd, hl, hle, es, hi, hz, al⟩, ?_, ?_⟩
  · obtain ⟨o, _, e, _⟩ := hi
    exact ⟨o, e⟩
  · rintro h1 h2 ⟨a, b, c, es, ⟨o, ep, e, r⟩, q⟩ k
    exact ⟨a, b, c, es, ⟨o, ep, k o e, r⟩, q⟩
/-! ### the display -/
def tDispX (w : World) (trs : List (TE × TE)) : TE := fun σ H Q => ∀ p, H p = none → tPairs trs σ (upd H p (DX w p [] [])) fun ps H2 => H2 p = some (DX w p [] []) ∧ ∃ ks : List NestedKey, ks.length = ps.length ∧ MixK H2 ks ps ∧ Q (.ref p) (upd H2 p (DX w p ks ps))
theorem vv_at : ∀ {ps : List (V × V)} {ws : List (Value × Value)} {i : Nat} {q : Value × Value}, VV ps ws → ws[i]? = some q → ∃ p, ps[i]? = some p ∧ RelV p.1 q.1 ∧ RelV p.2 q.2
  | _, _, _, _, .nil, e => by simp at e
  | _, _, 0, q, .cons r _, e => by
    obtain rfl := Option.some.inj e
    exact ⟨_, rfl, r⟩
  | _, _, i + 1, q, .cons _ t, e => by
    obtain ⟨p, a, b⟩ := vv_at (i := i) t (by simpa using e)
    exact ⟨p, by simpa using a, b⟩
theorem pps_len {X : Cx} {pos : Pos} {trs : List (TE × TE)} : ∀ {σ : L2.St} {H : Hp} {Q : List (V × V) → Hp → Prop}, tPairs trs σ H Q → True := fun _ => trivial
theorem vv_len {ps : List (V × V)} {ws : List (Value × Value)} (r : VV ps ws) : ps.length = ws.length := Paired.length r
theorem pe_dispX {X : Cx} {pos : Pos} {keys : List (Option Expr)} {values : List Expr} {trs : List (TE × TE)} (hu : X.A.units + 8 < cLine) (h : PPs X pos keys values trs) (hall : keys.all (·.isSome) = true) (hl : keys.length = values.length) (h0 : keys ≠ [])
    (h15 : keys.length ≤ 15) : PE X (.Dict keys values pos) (tDispX X.w trs) := by
  refine ⟨fun pins s σ H Q I q => ?_⟩
  have hn := I.hok.fresh (Nat.le_refl s.heap.objs.size)
  have hbig : (s.heap.objs.size == sysModules) = false := beq_eq_false_iff_ne.mpr (Ne.symm (Nat.ne_of_lt I.big))
  have di : DictIs (s.heap.push { cls := .type "dict", data := .dict #[] }) s.heap.objs.size #[] := ⟨_, 0, Heap.get?_push_size _ rfl, ⟨rfl, rfl, rfl⟩, rfl⟩
  have I1 := I.laid (a := s.heap.objs.size) (o := DX X.w s.heap.objs.size [] []) (h' := s.heap.push { cls := .type "dict", data := .dict #[] }) (t' := s.toks) (fun _ _ q => Heap.get?_push_of_some _ q) (Nat.le_refl _) (dx_new hbig rfl (Nat.zero_le _) di rfl (fun i e k p a => by simp at a))
  have hn15 := pairTrees_length keys values X.env pos hall hl
  refine nk_display hu hall hl h0 h15 (thn (wpAny_evalPairs_len (h.run pins _ σ _ _ I1 (q _ hn))) fun ws s2 ⟨wl, ps, H2, I2, rel, e, ks, kl, m, q2⟩ => ?_)
  obtain ⟨_, _, _, es, hdi, hz, _⟩ := dx_rd I2.hok (.inl e)
  have e0 : es = #[] := Array.size_eq_zero_iff.mp hz
  subst e0
  have l2 := vv_len rel
  refine ⟨ks, hdi, by rw [kl, l2], by omega, fun i k p a b => ?_, m.nd, m.dp, fun h' es' t hd' e' hs => ⟨.ref s.heap.objs.size, _, ?_, rfl, q2⟩⟩
  · obtain ⟨p', a', r, _⟩ := vv_at rel b
    exact (m.is_ i k p' a a').is I2.hok r
  · have le : es'.size = ks.length := by
      have z := congrArg List.length e'
      rw [Array.length_toList, List.length_zipWith, kl, l2] at z
      omega
    have he : ∃ q, h'.get? s.heap.objs.size = some q := let ⟨o, _, z, _⟩ := hd'; ⟨o, z⟩
    refine d_write I2 (by rw [e]; exact True.intro) hs he (dx_new hbig kl (by rw [sizeLine_eq]; omega) hd' le fun i en k p a b c => ?_)
    have z : es'.toList[i]? = some en := by rw [Array.getElem?_toList]; exact a
    rw [e', List.getElem?_zipWith, b] at z
    cases ew : ws[i]? with
    | none => rw [ew] at z; cases z
    | some q' =>
      rw [ew] at z
      obtain rfl := Option.some.inj z
      obtain ⟨p', a', r1, r2⟩ := vv_at rel ew
      rw [c] at a'
      obtain rfl := Option.some.inj a'
      exact ⟨rfl, r1, r2⟩
/-! ### d[k] -/
def tDGetX (w : World) (td ty : TE) : TE := fun σ H Q => td σ H fun x H1 => ty σ H1 fun y H2 => ∃ (d : Addr) (ks : List NestedKey) (kvs : List (V × V)) (k : NestedKey) (j : Nat) (p : V × V), x = .ref d ∧ Rd H2 d (DX w d ks kvs) ∧ MixK H2 ks kvs ∧ KeyH H2 k y ∧ ks[j]? = some k ∧ kvs[j]? = some p ∧ Q p.2 H2
section
variable {X : Cx} {pins : List (Addr × Obj)} {σ : St} {H : Hp} {s : Shared} {A : Around} {E : Value → Shared → Prop} {d : Addr} {ks : List NestedKey} {kvs : List (V × V)} {o i : Expr} {td ty : TE} {pos : Pos}
theorem dx_type (I : Inv X pins σ H s) (e : Rd H d (DX X.w d ks kvs)) : s.TypeIs (.ref d) "dict" := by
  obtain ⟨_, _, _, es, ⟨o, _, z, q, _⟩, _⟩ := dx_rd I.hok e
  exact ⟨o, z, q.1⟩
theorem dx_noDict (I : Inv X pins σ H s) (e : Rd H d (DX X.w d ks kvs)) : ∀ b, Value.ref d = .ref b → ∃ ob, s.heap.get? b = some ob ∧ ob.dict = none := fun b z => by
  injection z with z
  subst z
  obtain ⟨_, _, _, es, ⟨o, _, z, q, _⟩, _⟩ := dx_rd I.hok e
  exact ⟨o, z, q.2.1⟩
theorem dx_getItem {k : NestedKey} {j : Nat} {p : V × V} {y : V} {u : Value} {Q : Value → Shared → Prop} (hu : A.in1.units + 8 < cLine) (I : Inv X pins σ H s) (e : Rd H d (DX X.w d ks kvs)) (m : MixK H ks kvs) (hk : KeyH H k y) (ej : ks[j]? = some k) (ep : kvs[j]? = some p) (ry : RelV y u)
    (h : ∀ w' s', Inv X pins σ H s' → RelV p.2 w' → Q w' s') : wpAny (model X.prog X.w) A (getItem (.ref d) u) Q E s := by
  have hT := dx_type I e
  obtain ⟨_, hl, _, es, ⟨o, epo, ho, hc, hdt⟩, hz, al⟩ := dx_rd I.hok e
  have en := dx_ents I.hok m hl hz al
  unfold getItem
  try with_reducible refine wpAny_holding ?_
  refine wpAny_bind (wpAny_sequenceKey hT (by decide) (wpAny_bind (wpAny_callSpecial?_slot (name := Str.ofString "__getitem__") hT slot_dict_getitem (wpAny_call_entry slot_dict_getitem hT entry_dict_getitem ?_ (args_dict_getitem _ _)))))
  show wpAny _ _ (dictGet d u >>= fun _ => _) _ _ s
  refine wpAny_bind (nk_get hu (hk.is I.hok ry) (m.dp _ (List.mem_of_getElem? ej)) ho hdt en (fun n => absurd (List.mem_of_getElem? ej) n) fun j' e' a b => ?_)
  have e2 : j' = j := (List.getElem?_inj (List.getElem?_eq_some_iff.mp a).1 m.nd).mp (a.trans ej.symm)
  subst e2
  obtain ⟨_, _, r⟩ := al j' e' k p b a ep
  exact wpAny_pure ⟨e'.val, rfl, wpAny_pure (h _ _ (I.tok _) r)⟩
theorem pe_dgetX (hu : X.A.in1.units + 8 < cLine) (ho : PE X o td) (hi : PE X i ty) (hs : NoSl i) : PE X (.Subscript o i pos) (tDGetX X.w td ty) := by
  refine ⟨fun pins s σ H Q I h => subD_of PySem.F.slot_dict_getitem.lookup hs (thn (ho.run pins s σ H _ I h) fun u s1 ⟨x, H1, I1, rx, q1⟩ => thn (hi.run pins s1 σ H1 _ I1 q1) fun iv s2 ⟨y, H2, I2, ry, d, ks, kvs, k, j, p, ex, e, m, hk, ej, ep, q2⟩ => ?_)⟩
  subst ex
  cases (show u = Value.ref d from rx)
  exact ⟨dx_type I2 e, dx_getItem hu I2 e m hk ej ep ry fun w' s3 I3 rw' => ⟨p.2, H2, I3, rw', q2⟩⟩
/-! ### isinstance(d, dict), len(d) -/
theorem call_isiD : CallR X (.builtin "isinstance") (fun xs H Q => ∃ (d : Addr) (ks : List NestedKey) (kvs : List (V × V)) (c : V) (u : Value) (b : Bool), xs = [.ref d, c] ∧ ClsV c u ∧ Rd H d (DX X.w d ks kvs) ∧ PySem.W.kitOne X.K (.type "dict") u = some b ∧ Q (.bl b) H) := by
  intro pins s σ H xs us Q I r h
  obtain ⟨d, ks, kvs, c, u, b, rfl, k, e, hb, q⟩ := h
  obtain ⟨u1, u2, rfl, r1, r2⟩ := vals2 r
  have e2 := k.eq r2
  subst e2
  cases (show u1 = Value.ref d from r1)
  obtain ⟨o, h1, h2⟩ := dx_type I e
  exact PySem.W.kia_one PySem.W.kitx_dict I.kIn ⟨o, h1, h2⟩ hb (fun z => nomatch z) fun tk => ⟨.bl b, H, I.tok tk, rfl, q⟩
theorem len_body {n : Nat} {es : Array DictEntry} {Q : Value → Shared → Prop} (hs : (d == sysModules) = false) (hd : DictIs s.heap d es) (hn : es.size = n) (hz : n ≤ sizeLine) (h : Q (.int n (s.toks + 1)) { s with toks := s.toks + 1 + 1 }) :
    wpAny (model X.prog X.w) A (call (.builtin "len") [.ref d]) Q E s := by
  have hT : s.TypeIs (.ref d) "dict" := let ⟨o, _, z, q, _⟩ := hd; ⟨o, z, q.1⟩
  have ml : MeetsIn X.prog X.w (Builtin.«dict.__len__» ⟨[.ref d], []⟩) (fun _ R s => ∃ es, DictIs s.heap d es ∧ R (.ok (.ret (.int es.size s.toks))) { s with toks := s.toks + 1 }) := .of_wp fun A R s ⟨es, hd, h⟩ => by
    obtain ⟨o, ep, ho, hc, hdt⟩ := hd
    show wpAny _ _ (dictSize d >>= fun _ => _) _ _ s
    unfold dictSize
    refine wpAny_bind (wpAny_bind (wpAny_dictEntries ho hdt (wpAny_pure ?_)))
    show wpAny _ _ (Builtin.Dict.pendingCount d >>= fun _ => _) _ _ s
    exact wpAny_bind (wpAny_pendingCount_other hs (wpAny_ret_mkInt (by rw [Nat.add_zero]; exact h)))
  rw [sizeLine_eq] at hz
  refine Calls.call_function_entry kind_len plain_len entry_len (args_len1 _) ?_
  unfold Builtin.«len»
  refine wpAny_bind (m := oneArg "len" _) (wpAny_pure (wpAny_bind (m := callSpecial? (.ref d) (Str.ofString "__len__")) (wpAny_callSpecial?_slot (name := Str.ofString "__len__") hT F.slot_dict_len
    (call_meetsIn F.slot_dict_len hT F.entry_dict_len (F.args_dict_len_1 _) ml ⟨es, hd, ?_⟩))))
  rw [hn]
  show wpAny _ _ _ _ _ { s with toks := s.toks + 1 }
  refine wpAny_bind (wpAny_holding (wpAny_pure (wpAny_bind (wpAny_letGo ?_))))
  show wpAny _ _ (if ((n : Nat) : Int) < 0 then _ else _) _ _ _
  rw [if_neg (by omega)]
  show wpAny _ _ (if ((n : Nat) : Int) ≥ 2 ^ 63 then _ else _) _ _ _
  rw [if_neg (by omega)]
  exact wpAny_bind (wpAny_mkInt (wpAny_pure ⟨_, rfl, h⟩))
theorem call_lenX : CallR X (.builtin "len") (fun xs H Q => ∃ (d : Addr) (ks : List NestedKey) (kvs : List (V × V)), xs = [.ref d] ∧ Rd H d (DX X.w d ks kvs) ∧ Q (.int kvs.length) H) := by
  intro pins s σ H xs us Q I r h
  obtain ⟨d, ks, kvs, rfl, e, q⟩ := h
  obtain ⟨u, rfl, ru⟩ := vals1 r
  cases (show u = Value.ref d from ru)
  obtain ⟨hs, hl, hz, es, hd, hn, _⟩ := dx_rd I.hok e
  exact len_body hs hd (hn.trans hl) (by rw [← hl]; exact hz) ⟨.int kvs.length, H, I.tok _, ⟨_, rfl⟩, q⟩
/-! ### for k in d -/
def Itkx (w : World) (d : Addr) (o : Obj) (ks : List NestedKey) (kvs : List (V × V)) : It :=
  ⟨fun i H => H d = some (.frz o (DX w d ks kvs)) ∧ i < kvs.length, fun i H x H' => H' = H ∧ ∃ v, kvs[i]? = some (x, v), fun i H => H d = some (.frz o (DX w d ks kvs)) ∧ kvs.length ≤ i⟩
theorem frzX {ob : Obj} (I : Inv X pins σ H s) (h : H d = some (.frz ob (DX X.w d ks kvs))) : (d == sysModules) = false ∧ s.heap.get? d = some ob ∧ ob.ExactDict ∧ ∃ (es : Array DictEntry) (ep : Nat), ob.data = .dict es ep ∧ es.size = kvs.length ∧ ∀ (i : Nat) (p : V × V), kvs[i]? = some p → ∃ en : DictEntry, es[i]? = some en ∧ RelV p.1 en.key := by
  obtain ⟨hd, ⟨hs, hl, _, es, ⟨o', ep, ho, hx, hdt⟩, hz, al⟩, _⟩ := I.hok d _ h
  rw [hd] at ho
  cases ho
  refine ⟨hs, hd, hx, es, ep, hdt, hz.trans hl, fun i p e => ?_⟩
  have lt := (List.getElem?_eq_some_iff.mp e).1
  have l1 : i < es.size := by omega
  have l2 : i < ks.length := by omega
  exact ⟨es[i], Array.getElem?_eq_getElem l1, (al i _ _ p (Array.getElem?_eq_getElem l1) (List.getElem?_eq_getElem l2) e).2.1⟩
theorem turn_keysX {P : Program} {w : World} {K : PySem.W.Frag} {tg : Expr} {ob : Obj} {es : Array DictEntry} {ep : Nat} (it : Addr) (hod : ob.data = .dict es ep) : Turn P w K tg (Itkx w d ob ks kvs) [it] it (fun i h => h.IsKeyIter it d i kvs.length ep) where
  mem := by simp
  obj := fun i h st b hb => by
    have e : b = it := by simpa using hb
    subst e
    exact let ⟨oi, e, c, dd⟩ := st; ⟨oi, e, fun v z => by rw [dd] at z; cases z⟩
  keep := fun i h h' st k => st.at fun oi e => k it (by simp) oi e
  item := by
    intro X hP hw hK hc i pins s σ H E I hf st hg
    subst hP hw hK
    have lt : i < kvs.length := hg.2
    obtain ⟨f0, f1, f2, f3, f4, f5⟩ := hf it (by simp)
    obtain ⟨hs, hgd, hx, es', ep', hdt, hsz, ent⟩ := frzX I hg.1
    obtain ⟨rfl, rfl⟩ := dict_ep hod hdt
    obtain ⟨en, hen, rk⟩ := ent i kvs[i] (List.getElem?_eq_getElem hg.2)
    refine next_key_item st hgd hdt hsz hen fun h' st' sb => ?_
    obtain ⟨oi, e, c, dd⟩ := id st'
    exact ⟨en.key, rfl, go_of (s := { s with heap := h' }) e c dd (by decide) ⟨kvs[i].1, H, I.turned (t' := s.toks) (fun b ob hb e => (sb.2 b hb).trans e) f0 f1 f3 f4 f5, rk, ⟨rfl, kvs[i].2, List.getElem?_eq_getElem hg.2⟩, st', fun b hb => (hf b hb).1⟩⟩
  done := by
    intro X hP hw hK hc i pins s σ H E I hf st hg
    subst hP hw hK
    obtain ⟨f0, f1, f2, f3, f4, f5⟩ := hf it (by simp)
    obtain ⟨hs, hgd, hx, es', ep', hdt, hsz, ent⟩ := frzX I hg.1
    obtain ⟨rfl, rfl⟩ := dict_ep hod hdt
    exact next_key_end (I.ok.hd hc) st hgd hdt hsz hg.2 fun h' eb => ⟨rfl, I.turned (t' := s.toks) (fun b ob hb e => eb b ob hb e) f0 f1 f3 f4 f5⟩
  self := fun A i s Q E st h => wpAny_pyIter_keyiter st h
def iKeysX (w : World) (td : TE) : TI := fun σ H R => td σ H fun x H1 => ∃ (d : Addr) (o : Obj) (ks : List NestedKey) (kvs : List (V × V)), x = .ref d ∧ H1 d = some (.frz o (DX w d ks kvs)) ∧ R (Itkx w d o ks kvs) H1
theorem pi_keysX {tg e : Expr} (he : PE X e td) : PI X tg e (iKeysX X.w td) := by
  refine ⟨fun pins s σ H R I h => thn (he.run pins s σ H _ I h) fun u s1 ⟨x, H1, I1, rx, d, o, ks, kvs, ex, hd, q⟩ => ?_⟩
  subst ex
  cases (show u = Value.ref d from rx)
  obtain ⟨hs, hgd, hx, es, ep, hdt, hsz, _⟩ := frzX I1 hd
  refine iter_keys hs hgd hx hdt (pi_one (tk := s1.toks) I1 _ (turn_keysX _ hdt) ⟨_, Heap.get?_push_size _ rfl, rfl, ?_⟩ q)
  rw [hsz] <;> rfl
theorem walk_keysX {w : World} {ob : Obj} : Walk (Itkx w d ob ks kvs) kvs.length (fun H => H d = some (.frz ob (DX w d ks kvs))) (fun i H x H' => H' = H ∧ ∃ v, kvs[i]? = some (x, v)) :=
  ⟨fun _ _ hi q => ⟨q, hi⟩, fun _ q => ⟨q, Nat.le_refl _⟩, fun _ _ _ _ _ _ y => y⟩
end
end L2.MK
/-! dicts with keys of several kinds: stored, whatever stands there; entries as one list -/
namespace L2.MK
open PySem PySem.Spec PyProof.Rows SeqAt
abbrev En := NestedKey × V × V
/-- the dict at d with these entries -/
abbrev DE (w : World) (d : Addr) (es : List En) : HO := DX w d (es.map (·.1)) (es.map (·.2))
abbrev MixE (H : Hp) (es : List En) : Prop := MixK H (es.map (·.1)) (es.map (·.2))
def valE (es : List En) (k : NestedKey) : Option V := (es.find? fun e => decide (e.1 = k)).map (·.2.2)
def putE (es : List En) (k : NestedKey) (y v : V) : List En := if k ∈ es.map (·.1) then es.map fun e => if e.1 = k then (e.1, e.2.1, v) else e else es ++ [(k, y, v)]
theorem putE_new {es : List En} {k : NestedKey} {y v : V} (h : k ∉ es.map (·.1)) : putE es k y v = es ++ [(k, y, v)] := by unfold putE; rw [if_neg h]
theorem putE_old {es : List En} {k : NestedKey} {y v : V} (h : k ∈ es.map (·.1)) : putE es k y v = es.map fun e => if e.1 = k then (e.1, e.2.1, v) else e := by unfold putE; rw [if_pos h]
theorem putE_keys {es : List En} {k : NestedKey} {y v : V} : (putE es k y v).map (·.1) = if k ∈ es.map (·.1) then es.map (·.1) else es.map (·.1) ++ [k] := by
  unfold putE
  by_cases h : k ∈ es.map (·.1)
  · rw [if_pos h, if_pos h, List.map_map]
    refine List.map_congr_left fun e _ => ?_
    show (if e.1 = k then (e.1, e.2.1, v) else e).1 = e.1
    by_cases z : e.1 = k
    · rw [if_pos z]
    · rw [if_neg z]
  · rw [if_neg h, if_neg h, List.map_append]; rfl
theorem putE_length (es : List En) (k : NestedKey) (y v : V) : (putE es k y v).length ≤ es.length + 1 := by
  unfold putE
  by_cases h : k ∈ es.map (·.1)
  · rw [if_pos h, List.length_map]; omega
  · rw [if_neg h, List.length_append]; exact Nat.le_refl _
theorem putE_nodup {es : List En} {k : NestedKey} {y v : V} (h : (es.map (·.1)).Nodup) : ((putE es k y v).map (·.1)).Nodup := by
  rw [putE_keys]
  by_cases z : k ∈ es.map (·.1)
  · rw [if_pos z]; exact h
  · rw [if_neg z, List.nodup_append]
    exact ⟨h, by simp, fun a ha b hb e => by rw [List.mem_singleton] at hb; rw [e, hb] at ha; exact z ha⟩
theorem MixE.put {H : Hp} {es : List En} {k : NestedKey} {y v : V} (m : MixE H es) (hk : KeyH H k y) (hd : k.depth ≤ 8) : MixE H (putE es k y v) := by
  refine ⟨fun i k' p e1 e2 => ?_, putE_nodup m.nd, fun k' hk' => ?_⟩
  · rw [List.getElem?_map] at e1 e2
    obtain ⟨e, ee, rfl⟩ := Option.map_eq_some_iff.mp e1
    rw [ee] at e2
    obtain rfl := Option.some.inj e2
    by_cases z : k ∈ es.map (·.1)
    · rw [putE_old z, List.getElem?_map] at ee
      obtain ⟨e0, e0e, rfl⟩ := Option.map_eq_some_iff.mp ee
      have q := m.is_ i e0.1 e0.2 (by rw [List.getElem?_map, e0e]; rfl) (by rw [List.getElem?_map, e0e]; rfl)
      by_cases h : e0.1 = k
      · simp only [if_pos h]; exact q
      · simp only [if_neg h]; exact q
    · rw [putE_new z] at ee
      by_cases lt : i < es.length
      · rw [List.getElem?_append_left lt] at ee
        exact m.is_ i e.1 e.2 (by rw [List.getElem?_map, ee]; rfl) (by rw [List.getElem?_map, ee]; rfl)
      · rw [List.getElem?_append_right (by omega)] at ee
        have l2 := (List.getElem?_eq_some_iff.mp ee).1
        simp only [List.length_singleton] at l2
        rw [show i - es.length = 0 by omega] at ee
        obtain rfl := Option.some.inj ee
        exact hk
  · rw [putE_keys] at hk'
    by_cases z : k ∈ es.map (·.1)
    · rw [if_pos z] at hk'; exact m.dp _ hk'
    · rw [if_neg z] at hk'
      rcases List.mem_append.mp hk' with hk' | hk'
      · exact m.dp _ hk'
      · rw [List.mem_singleton] at hk'; rw [hk']; exact hd
section
variable {prog : Program} {w : World} {A : Around} {E : Value → Shared → Prop} {s : Shared} {d : Addr} {es : Array DictEntry} {ks : List NestedKey} {k : NestedKey} {key : Value}
theorem nk_setOld {v : Value} {j : Nat} {Q : Unit → Shared → Prop} (hu : A.units + 8 < cLine) (hk : NestedIs s.heap k key) (hd8 : k.depth ≤ 8) (hd : DictIs s.heap d es) (he : Ents w s.heap es ks) (hj : ks[j]? = some k)
    (hQ : ∀ h', DictIs h' d (es.modify j fun e => { e with val := v }) → Heap.SameBut d s.heap h' → Q () { s with heap := h', toks := s.toks + k.draws }) : wpAny (model prog w) A (dictSet d key v) Q E s := by
  obtain ⟨o, ep, ho, hc, hdt⟩ := hd
  unfold dictSet
  try with_reducible refine wpAny_holding ?_
  refine wpAny_bind (pyHash_key k key A s _ hk (by omega) ?_)
  unfold dictSetHashed
  try with_reducible refine wpAny_holding ?_
  refine wpAny_bind (nk_find (s := { s with toks := s.toks + k.draws }) hu hk hd8 ho hdt he (fun n => absurd (List.mem_of_getElem? hj) n) fun i hi => ?_)
  obtain rfl : i = j := (List.getElem?_inj (List.getElem?_eq_some_iff.mp hi).1 he.nd).mp (hi.trans hj.symm)
  exact wpAny_bind (wpAny_rule (wpAny_bind (wpAny_updateDict (s := { s with toks := s.toks + k.draws }) ho hdt (wpAny_point (hQ _ ⟨_, ep, Heap.get?_update_self _ ho (Obj.isFreed_of_dict (Obj.data_mapDict hdt _)), hc.mapDict _, Obj.data_mapDict hdt _⟩ (Heap.SameBut.update ..))))))
end
section
variable {X : Cx} {pins : List (Addr × Obj)} {σ : St} {H : Hp} {s : Shared} {A : Around} {E : Value → Shared → Prop} {d : Addr} {es : List En} {k : NestedKey} {y v : V} {u r : Value}
/-- d[k] = v by the machine's own store -/
theorem dx_dictSetS {Q : Unit → Shared → Prop} (hu : A.units + 8 < cLine) (I : Inv X pins σ H s) (hd : H d = some (DE X.w d es)) (m : MixE H es) (hk : KeyH H k y) (hd8 : k.depth ≤ 8) (hz : es.length < sizeLine) (ry : RelV y u) (rv : RelV v r)
    (h : ∀ (h' : Heap) (t : Nat), Heap.SameBut d s.heap h' → Inv X pins σ (upd H d (DE X.w d (putE es k y v))) { s with heap := h', toks := t } → Q () { s with heap := h', toks := t }) : wpAny (model X.prog X.w) A (dictSet d u r) Q E s := by
  obtain ⟨hs, hl, hle, ar, hdi, hsz, al⟩ := dx_rd I.hok (.inl hd)
  have en := dx_ents I.hok m hl hsz al
  have is := hk.is I.hok ry
  have lenA : ar.size = es.length := by rw [hsz, List.length_map]
  have fin : ∀ (h' : Heap) (ar' : Array DictEntry) (t : Nat), DictIs h' d ar' → Heap.SameBut d s.heap h' → ar'.size = (putE es k y v).length → (∀ (i : Nat) (e : DictEntry) (x : En), ar'[i]? = some e → (putE es k y v)[i]? = some x → e.hash = x.1.hash X.w ∧ RelV x.2.1 e.key ∧ RelV x.2.2 e.val) → Q () { s with heap := h', toks := t } := fun h' ar' t hd' sb l' al' => by
    have he : ∃ q, h'.get? d = some q := let ⟨o, _, z, _⟩ := hd'; ⟨o, z⟩
    refine h _ _ sb (d_write I (by rw [hd]; exact True.intro) sb he (dx_new hs (by rw [List.length_map, List.length_map]) ?_ hd' (by rw [l', List.length_map]) fun i e k' p a b c => ?_))
    · rw [List.length_map]; exact Nat.le_trans (putE_length es k y v) hz
    · rw [List.getElem?_map] at b c
      obtain ⟨x, ex, rfl⟩ := Option.map_eq_some_iff.mp b
      rw [ex] at c
      obtain rfl := Option.some.inj c
      exact al' i e x a ex
  have old : ∀ (i : Nat) (e : DictEntry) (x : En), ar[i]? = some e → es[i]? = some x → e.hash = x.1.hash X.w ∧ RelV x.2.1 e.key ∧ RelV x.2.2 e.val := fun i e x a b => al i e x.1 x.2 a (by rw [List.getElem?_map, b]; rfl) (by rw [List.getElem?_map, b]; rfl)
  by_cases z : k ∈ es.map (·.1)
  · obtain ⟨j, hj⟩ := List.mem_iff_getElem?.mp z
    refine nk_setOld hu is hd8 hdi en hj fun h' hd' sb => fin h' _ _ hd' sb ?_ fun i e x a b => ?_
    · rw [Array.size_modify, lenA, putE_old z, List.length_map]
    · rw [putE_old z, List.getElem?_map] at b
      obtain ⟨x0, ex0, rfl⟩ := Option.map_eq_some_iff.mp b
      rw [Array.getElem?_modify] at a
      have same : x0.1 = k ↔ j = i := by
        rw [List.getElem?_map] at hj
        obtain ⟨xj, exj, ej⟩ := Option.map_eq_some_iff.mp hj
        constructor
        · intro q
          have e1 : (es.map (·.1))[i]? = some k := by rw [List.getElem?_map, ex0, Option.map_some, q]
          have e2 : (es.map (·.1))[j]? = some k := by rw [List.getElem?_map, exj, Option.map_some, ej]
          exact (List.getElem?_inj (List.getElem?_eq_some_iff.mp e2).1 m.nd).mp (e2.trans e1.symm)
        · intro q
          subst q
          rw [ex0] at exj
          obtain rfl := Option.some.inj exj
          exact ej
      by_cases q : j = i
      · rw [if_pos q] at a
        obtain ⟨e0, ee0, rfl⟩ := Option.map_eq_some_iff.mp a
        obtain ⟨h1, h2, _⟩ := old i e0 x0 ee0 ex0
        simp only [if_pos (same.mpr q)]
        exact ⟨h1, h2, rv⟩
      · rw [if_neg q] at a
        simp only [if_neg (fun t => q (same.mp t))]
        exact old i e x0 a ex0
  · refine nk_setNew hu is hd8 hdi en z (by rw [hsz, List.length_map]; omega) fun h' hd' sb => fin h' _ _ hd' sb ?_ fun i e x a b => ?_
    · rw [Array.size_push, lenA, putE_new z, List.length_append]; rfl
    · rw [putE_new z] at b
      by_cases lt : i < es.length
      · rw [List.getElem?_append_left lt] at b
        rw [Array.getElem?_push_lt (by rw [lenA]; exact lt)] at a
        exact old i e x (by rw [Array.getElem?_eq_getElem (by rw [lenA]; exact lt)]; exact a) b
      · rw [List.getElem?_append_right (by omega)] at b
        have l2 := (List.getElem?_eq_some_iff.mp b).1
        simp only [List.length_singleton] at l2
        have e1 : i = ar.size := by omega
        subst e1
        rw [Array.getElem?_push_size] at a
        rw [show ar.size - es.length = 0 by omega] at b
        obtain rfl := Option.some.inj a
        obtain rfl := Option.some.inj b
        exact ⟨rfl, ry, rv⟩
theorem dx_dictSet {Q : Unit → Shared → Prop} (hu : A.units + 8 < cLine) (I : Inv X pins σ H s) (hd : H d = some (DE X.w d es)) (m : MixE H es) (hk : KeyH H k y) (hd8 : k.depth ≤ 8) (hz : es.length < sizeLine) (ry : RelV y u) (rv : RelV v r)
    (h : ∀ s', Inv X pins σ (upd H d (DE X.w d (putE es k y v))) s' → Q () s') : wpAny (model X.prog X.w) A (dictSet d u r) Q E s := dx_dictSetS hu I hd m hk hd8 hz ry rv fun _ _ _ I' => h _ I'
end
end L2.MK
/-! {k: v for .. in ..}, keys of any kind -/
namespace L2.MK
open PySem PySem.Spec PyProof.Rows SeqAt
/-- what a turn stores -/
def StoX (w : World) (D : Addr) (y z : V) (H : Hp) (Nx : Hp → Prop) : Prop := ∃ (es : List En) (k : NestedKey), H D = some (DE w D es) ∧ MixE H es ∧ KeyH H k y ∧ k.depth ≤ 8 ∧ es.length < sizeLine ∧ Nx (upd H D (DE w D (putE es k y z)))
def DcXW (w : World) (J : It) (g : TG) (tt : TT) (tk tv : TE) (vs : List Nat) (σ : St) (H1 : Hp) (Q : Addr → Hp → Prop) : Prop := ∀ D, H1 D = none → ∃ W : Nat → Nat → Hp → Prop, (∃ m, W 0 m (upd H1 D (DE w D []))) ∧ ∀ i m H, W i m H →
  (J.stop i H ∧ Q D H) ∨ (J.go i H ∧ ∃ Nx : Hp → Prop, (∀ H', Nx H' → ∃ m', m' < m ∧ W (i + 1) m' H') ∧ ∀ x H', J.yld i H x H' → g x (wipe σ vs) H' fun σ2 H2 => wipe σ2 vs = wipe σ vs ∧ tt σ2 H2 fun b H3 =>
    if b = true then tk σ2 H3 fun y H4 => tv σ2 H4 fun z H5 => StoX w D y z H5 Nx else Nx H3)
def tDcX (w : World) (wi : TI) (g : TG) (tt : TT) (tk tv : TE) (vs : List Nat) : TE := fun σ H Q => wi σ H fun J H1 => DcXW w J g tt tk tv vs σ H1 fun D H => Q (.ref D) H
section
variable {X : Cx}
theorem dx_empty {P : Program} {w : World} {H : Hp} {h : Heap} (hb : sysModules < h.objs.size) : ObjOk P w H (h.push { cls := .type "dict", data := .dict #[] }) h.objs.size (DE w h.objs.size []) :=
  dx_new (beq_eq_false_iff_ne.mpr (Ne.symm (Nat.ne_of_lt hb))) rfl (Nat.zero_le _) (es := #[]) ⟨_, 0, Heap.get?_push_size _ rfl, ⟨rfl, rfl, rfl⟩, rfl⟩ rfl (fun i e k p a => by simp at a)
theorem pe_dcX {w : World} (hw : X.w = w) {kx vx tg iter : Expr} {ifs : List Expr} {scope : Scope} {own : List (Str × Nat)} {pos : Pos} {wi : TI} {g : TG} {tt : TT} {tk tv : TE} (hu : X.A.units + 8 < cLine) (calm : X.calm = true) (unlike : X.N.Nodup) (walked : PI X tg iter wi) (fits : BlkOk X.N X.env.scope scope own)
    (target : ∀ (s : Shared) (H : Hp) (C : Addr) (cl : List (Str × Addr)) (fp : List Addr), PG (X.blk s H scope (compEnvC scope cl C X.env) fp) tg g) (tests : ∀ (s : Shared) (H : Hp) (C : Addr) (cl : List (Str × Addr)) (fp : List Addr), PTs (X.blk s H scope (compEnvC scope cl C X.env) fp) ifs tt)
    (keyE : ∀ (s : Shared) (H : Hp) (C : Addr) (cl : List (Str × Addr)) (fp : List Addr), PE (X.blk s H scope (compEnvC scope cl C X.env) fp) kx tk)
    (valueE : ∀ (s : Shared) (H : Hp) (C : Addr) (cl : List (Str × Addr)) (fp : List Addr), PE (X.blk s H scope (compEnvC scope cl C X.env) fp) vx tv) (folded : ∀ x, foldedSetIterable iter X.env x = pure x := by intro _; rfl) :
    PE X (.DictComp kx vx [⟨tg, iter, ifs, 0⟩] scope pos) (tDcX w wi g tt tk tv (own.map (·.2))) := by
  subst hw
  refine ⟨fun pins s σ H Q I reading => ?_⟩
  rw [arm_eval_DictComp]
  have cells : ∀ y ∈ scope.names, y.2 = .free → ∃ c, X.env.cells.lookup y.1 = some c := fun y hy e => (fits.free y hy e).elim (fun k => I.ok.has _ (.inl k)) fun k => I.ok.has _ (.inr k)
  refine wpAny_comprehension_free rfl folded (closure_ok cells) fits.kind (fun y hy e => by rw [fits.uniq y hy, e]) (thn (walked.run pins s σ H _ I reading) fun xv s1 hx => thn hx fun itv sA ⟨it, fp, tn, J, HA, eit, IA, T, stA, offA, turns⟩ => ?_)
  subst eit
  refine wpAny_newObj_type (newEnv_comp ?_)
  have newD : HA sA.heap.objs.size = none := IA.hok.fresh (Nat.le_refl _)
  obtain ⟨W, ⟨m0, w0⟩, turn⟩ := turns _ newD
  have IB : Inv X pins σ (upd HA sA.heap.objs.size (DE X.w sA.heap.objs.size [])) { sA with heap := sA.heap.push { cls := .type "dict", data := .dict #[] } } := IA.laid (t' := sA.toks) (fun b o e => Heap.get?_push_of_some _ e) (Nat.le_refl _) (dx_empty IA.big)
  generalize eD : sA.heap.objs.size = D at newD turn w0 IB ⊢
  generalize eB : ({ sA with heap := sA.heap.push { cls := .type "dict", data := .dict #[] } } : Shared) = sB at IB
  have hB : sB.heap = sA.heap.push { cls := .type "dict", data := .dict #[] } := by rw [← eB]
  have offB : ∀ b ∈ fp, FpOk X pins (upd HA D (DE X.w D [])) b ∧ b < sB.heap.objs.size := fun b hb => by
    obtain ⟨o, e, _⟩ := T.obj _ _ stA b hb
    have lt : b < sA.heap.objs.size := Heap.lt_size e
    exact ⟨⟨by rw [upd_ne (by rw [← eD]; exact Nat.ne_of_lt lt)]; exact (offA b hb).1, (offA b hb).2⟩, by rw [hB, Heap.size_push]; exact Nat.lt_succ_of_lt lt⟩
  have stB : tn 0 sB.heap := T.keep _ _ _ stA fun b _ o e => by rw [hB]; exact Heap.get?_push_of_some _ e
  have IC := block_start IB fits unlike offB
  have rg := target sB (upd HA D (DE X.w D [])) sB.heap.objs.size (cellsFrom (sB.heap.objs.size + 1) scope.names (cloFrom X.env.cells scope.names [])) fp
  have rt := tests sB (upd HA D (DE X.w D [])) sB.heap.objs.size (cellsFrom (sB.heap.objs.size + 1) scope.names (cloFrom X.env.cells scope.names [])) fp
  have rk := keyE sB (upd HA D (DE X.w D [])) sB.heap.objs.size (cellsFrom (sB.heap.objs.size + 1) scope.names (cloFrom X.env.cells scope.names [])) fp
  have rv := valueE sB (upd HA D (DE X.w D [])) sB.heap.objs.size (cellsFrom (sB.heap.objs.size + 1) scope.names (cloFrom X.env.cells scope.names [])) fp
  show codeAny _ _ (.compStart (.DictComp kx vx [⟨tg, iter, ifs, 0⟩] scope pos) 0 (.ref it) (.ref D) (compEnvC scope (cellsFrom (sB.heap.objs.size + 1) scope.names (cloFrom X.env.cells scope.names [])) sB.heap.objs.size X.env)) (compPost (model X.prog X.w) X.A X.xe _ _ (.ref D) sB.heap.objs.size) { sB with heap := pushCells (sB.heap.push { cls := .type "dict", data := .dict #[] }) scope.names }
  have offC : ∀ b ∈ fp, (upd HA D (DE X.w D [])) b = none := fun b hb => (offB b hb).1.1
  generalize eE : compEnvC scope (cellsFrom (sB.heap.objs.size + 1) scope.names (cloFrom X.env.cells scope.names [])) sB.heap.objs.size X.env = ce at IC rg rt rk rv ⊢
  have locC : ce.locals = sB.heap.objs.size := by rw [← eE]; rfl
  generalize upd HA D (DE X.w D []) = HB at IB IC rg rt rk rv w0 offB offC
  generalize eC' : ({ sB with heap := pushCells (sB.heap.push { cls := .type "dict", data := .dict #[] }) scope.names } : Shared) = sC at IC ⊢
  have stC : tn 0 sC.heap := T.keep _ _ _ stB fun b _ o e => by rw [← eC']; exact pushCells_keeps _ _ _ _ (Heap.get?_push_of_some _ e)
  have still : ∀ {σ' : St} {H' : Hp} {s' : Shared}, Inv (X.blk sB HB scope ce fp) [] σ' H' s' → (∀ b ∈ fp, H' b = none) → ∀ b ∈ fp, FpOk (X.blk sB HB scope ce fp) [] H' b := fun I' free b hb =>
    ⟨free b hb, (I'.ok.exf b hb).1, I'.ok.exfs b hb, .inl hb, fun x c e => (I'.ok.exf b hb).2 x c e, fun p hp => by rcases List.mem_append.mp (show p ∈ ([] : List (Addr × Obj)) ++ [] from hp) with z | z <;> cases z⟩
  refine (fun body => codeAny_compStart_dict body (T.self X.A 0 _ _ _ stC body)) ?_
  · refine compLoop_anyD (fun n s' => ∃ i H', Inv (X.blk sB HB scope ce fp) [] (wipe σ (own.map (·.2))) H' s' ∧ tn i s'.heap ∧ (∀ b ∈ fp, H' b = none) ∧ W i n H') ?_ m0 ⟨0, HB, IC, stC, offC, w0⟩
    rintro n s5 ⟨i, H5, I5, st5, free5, w5⟩
    rcases turn i n H5 w5 with ⟨ends, goal⟩ | ⟨goes, Nx, lower, step⟩
    · refine thnF (T.done (X.blk sB HB scope ce fp) rfl rfl rfl calm i [] s5 _ H5 (fun _ _ => False) I5 (still I5 free5) st5 ends) fun r s6 ⟨hr, I6⟩ => ?_
      subst hr
      obtain ⟨m, hns, _⟩ := I6.loc
      rw [show (X.blk sB HB scope ce fp).env.locals = sB.heap.objs.size from locC] at hns
      have nC : H5 sB.heap.objs.size = none := by rw [← locC]; exact I6.free
      have back : Inv X pins σ H5 s6 := IB.call' (ch := fp) I6.os I6.base I6.hok I6.bare fun b hb => let f := (offB b hb).1; ⟨f.2.2.2.1, f.2.1, f.2.2.2.2.1, f.2.2.2.2.2⟩
      obtain ⟨_, f1, f2, f3, f4, f5⟩ := IB.fpOk (Nat.le_refl _) nC
      exact ⟨m, hns, fun h'' sb => ⟨.ref D, H5, back.turned (t' := s6.toks) (fun b o hb e => (sb.2 b hb).trans e) nC f1 f3 f4 f5, rfl, goal⟩⟩
    · refine thnF (T.item (X.blk sB HB scope ce fp) rfl rfl rfl calm i [] s5 _ H5 (fun _ _ => False) I5 (still I5 free5) st5 goes) fun r s6 ⟨u, hr, h6⟩ => ?_
      subst hr
      refine thnF h6 fun _ s7 ⟨x, H7, I7, r7, y7, st7, free7⟩ => thnF (rg.run _ s7 _ H7 x u _ (I7.pinned (still I7 free7) (T.obj _ _ st7)) r7 (step x H7 y7)) fun _ s8 ⟨σ8, H8, I8, same8, q8⟩ => thnF (rt.run _ s8 σ8 H8 _ I8 q8) fun yes s9 ⟨H9, I9, q9⟩ => ?_
      have next : ∀ {s' : Shared} {H' : Hp}, Inv (X.blk sB HB scope ce fp) ([] ++ pinsAt fp s7.heap) σ8 H' s' → Nx H' → ∃ m, m < n ∧ ∃ i H', Inv (X.blk sB HB scope ce fp) [] (wipe σ (own.map (·.2))) H' s' ∧ tn i s'.heap ∧ (∀ b ∈ fp, H' b = none) ∧ W i m H' := fun {s' H'} I' nx => by
        obtain ⟨m', less, w'⟩ := lower H' nx
        have pinned : ∀ b ∈ fp, ∀ o, s7.heap.get? b = some o → s'.heap.get? b = some o ∧ H' b = none := fun b hb o e => by
          obtain ⟨z1, z2, _⟩ := I'.pin (b, o) (List.mem_append_right _ (List.mem_append_right _ (mem_pinsAt hb e)))
          exact ⟨z1, z2⟩
        refine ⟨m', less, i + 1, H', (I'.unpinned (pins := [])).weak (by rw [← same8, wipe_length]) (fun j v e => ?_), T.keep _ _ _ st7 fun b hb o e => (pinned b hb o e).1, fun b hb => ?_, w'⟩
        · rw [← same8] at e
          exact (wipe_some e).1
        · obtain ⟨o, e, _⟩ := T.obj _ _ st7 b hb
          exact (pinned b hb o e).2
      cases yes with
      | false => exact next I9 q9
      | true =>
        refine thnF (rk.run _ s9 σ8 H9 _ I9 q9) fun z sK ⟨yk, HK, IK, relK, qK⟩ => thnF (rv.run _ sK σ8 HK _ IK qK) fun z2 sV ⟨yv, HV, IV, relV, es, k, oD, mx, hk, dk, short, nx⟩ => ?_
        exact dx_dictSet (X := X.blk sB HB scope ce fp) hu IV oD mx hk dk short relK relV fun s12 I12 => next I12 nx
end
end L2.MK
/-! k in d, d[k] = v, list(d), list(d.items()), dict(pairs): keys of any kind -/
namespace L2.MK
open PySem PySem.Spec PyProof.Rows SeqAt
section
variable {X : Cx} {pins : List (Addr × Obj)} {σ : L2.St} {H : Hp} {s : Shared} {A : Around} {E : Value → Shared → Prop} {d : Addr} {es : List En} {k : NestedKey} {y v : V} {u r : Value} {o i value : Expr} {td ty tv : TE} {w : World}
theorem valE_at {j : Nat} {e : En} (nd : (es.map (·.1)).Nodup) (h : es[j]? = some e) : valE es e.1 = some e.2.2 := by
  unfold valE
  cases q : es.find? (fun x => decide (x.1 = e.1)) with
  | none => exact absurd (decide_eq_true rfl) (List.find?_eq_none.mp q e (List.mem_of_getElem? h))
  | some x =>
    have ex : x.1 = e.1 := by simpa using List.find?_some q
    obtain ⟨i, hi⟩ := List.mem_iff_getElem?.mp (List.mem_of_find?_eq_some q)
    have e1 : (es.map (·.1))[i]? = some e.1 := by rw [List.getElem?_map, hi, Option.map_some, ex]
    have e2 : (es.map (·.1))[j]? = some e.1 := by rw [List.getElem?_map, h]; rfl
    obtain rfl : i = j := (List.getElem?_inj (List.getElem?_eq_some_iff.mp e1).1 nd).mp (e1.trans e2.symm)
    rw [h] at hi
    rw [← Option.some.inj hi]; rfl
theorem valE_in {v : V} (h : valE es k = some v) : ∃ (j : Nat) (e : En), es[j]? = some e ∧ e.1 = k ∧ e.2.2 = v := by
  unfold valE at h
  obtain ⟨e, q, ev⟩ := Option.map_eq_some_iff.mp h
  obtain ⟨j, hj⟩ := List.mem_iff_getElem?.mp (List.mem_of_find?_eq_some q)
  exact ⟨j, e, hj, by simpa using List.find?_some q, ev⟩
theorem valE_mem : (valE es k).isSome = decide (k ∈ es.map (·.1)) := by
  by_cases h : k ∈ es.map (·.1)
  · rw [decide_eq_true h]
    obtain ⟨e, he, q⟩ := List.mem_map.mp h
    cases z : valE es k with
    | some v => rfl
    | none =>
      unfold valE at z
      rw [Option.map_eq_none_iff] at z
      exact absurd (decide_eq_true q) (List.find?_eq_none.mp z e he)
  · rw [decide_eq_false h]
    cases z : valE es k with
    | none => rfl
    | some v =>
      obtain ⟨j, e, he, q, _⟩ := valE_in z
      exact absurd (List.mem_map.mpr ⟨e, List.mem_of_getElem? he, q⟩) h
/-- the machine's own look -/
theorem dx_get {Q : Option Value → Shared → Prop} (hu : A.units + 8 < cLine) (I : Inv X pins σ H s) (e : Rd H d (DE X.w d es)) (m : MixE H es) (hk : KeyH H k y) (hd8 : k.depth ≤ 8) (ry : RelV y u) (hn : valE es k = none → ∀ t, Q none { s with toks := t }) (hs : ∀ v z t, valE es k = some v → RelV v z → Q (some z) { s with toks := t }) :
    wpAny (model X.prog X.w) A (dictGet d u) Q E s := by
  obtain ⟨_, hl, _, ar, ⟨ob, ep, ho, hc, hdt⟩, hz, al⟩ := dx_rd I.hok e
  refine nk_get hu (hk.is I.hok ry) hd8 ho hdt (dx_ents I.hok m hl hz al) (fun nm => hn ?_ _) fun j en a b => ?_
  · cases z : valE es k with
    | none => rfl
    | some v => have q := valE_mem (es := es) (k := k); rw [z, decide_eq_false nm] at q; cases q
  · rw [List.getElem?_map] at a
    obtain ⟨x, ex, ek⟩ := Option.map_eq_some_iff.mp a
    have ev := valE_at m.nd ex
    rw [ek] at ev
    exact hs _ _ _ ev (al j en x.1 x.2 b (by rw [List.getElem?_map, ex]; rfl) (by rw [List.getElem?_map, ex]; rfl)).2.2
theorem dx_has {Q : Bool → Shared → Prop} (hu : A.in1.units + 8 < cLine) (I : Inv X pins σ H s) (e : Rd H d (DE X.w d es)) (m : MixE H es) (hk : KeyH H k y) (hd8 : k.depth ≤ 8) (ry : RelV y u) (h : ∀ s', Inv X pins σ H s' → Q (valE es k).isSome s') : wpAny (model X.prog X.w) A (contains (.ref d) u) Q E s := by
  have hT := dx_type I e
  obtain ⟨sysn, _⟩ := dx_rd I.hok e
  unfold contains
  try with_reducible refine wpAny_holding ?_
  refine wpAny_bind (wpAny_specialOf hT slot_dict_contains.lookup ?_)
  show wpAny _ _ (if (some (Value.builtin "dict.__contains__") == some Value.none) = true then _ else _) _ E s
  rw [if_neg (by rw [beq_builtin_none]; exact Bool.false_ne_true)]
  refine wpAny_bind (wpAny_callSpecialUnlessNone?_slot (name := Str.ofString "__contains__") hT slot_dict_contains (wpAny_call_entry slot_dict_contains hT entry_dict_contains ?_ (args_dict_contains _ _)))
  show wpAny _ _ (dictGet d u >>= fun _ => _) _ _ s
  refine wpAny_bind (dx_get hu I e m hk hd8 ry (fun z t => ?_) fun v x t z _ => ?_)
  · rw [z] at h
    show wpAny _ _ (Builtin.Dict.pendingKey? d u >>= fun _ => _) _ _ _
    exact wpAny_bind (wpAny_pendingKey_other sysn (wpAny_pure ⟨_, rfl, wpAny_truthy_bool (h _ (I.tok _))⟩))
  · rw [z] at h
    exact wpAny_pure ⟨_, rfl, wpAny_truthy_bool (h _ (I.tok _))⟩
def tDInX (w : World) (neg : Bool) (ty td : TE) : TE := fun σ H Q => ty σ H fun y H1 => td σ H1 fun x H2 => ∃ (d : Addr) (es : List En) (k : NestedKey), x = .ref d ∧ Rd H2 d (DE w d es) ∧ MixE H2 es ∧ KeyH H2 k y ∧ k.depth ≤ 8 ∧ Q (.bl (xor neg (valE es k).isSome)) H2
theorem pc_dinX (hw : X.w = w) (hu : X.A.in1.units + 8 < cLine) (hi : PE X i ty) (ho : PE X o td) : PC X .In i o (tDInX w false ty td) := by
  subst hw
  refine ⟨fun pins s σ H Q I h => thn (hi.run pins s σ H _ I h) fun iv s1 ⟨y, H1, I1, ry, q1⟩ => thn (ho.run pins s1 σ H1 _ I1 q1) fun u s2 ⟨x, H2, I2, rx, d, es, k, ex, e, m, hk, dk, q2⟩ => ?_⟩
  subst ex
  cases (show u = Value.ref d from rx)
  show wpAny _ _ (do return Value.bool (← contains (.ref d) iv)) _ _ s2
  exact wpAny_bind (dx_has hu I2 e m hk dk ry fun s3 I3 => wpAny_pure ⟨.bl (valE es k).isSome, H2, I3, rfl, by simpa using q2⟩)
theorem pc_dnotinX (hw : X.w = w) (hu : X.A.in1.units + 8 < cLine) (hi : PE X i ty) (ho : PE X o td) : PC X .NotIn i o (tDInX w true ty td) := by
  subst hw
  refine ⟨fun pins s σ H Q I h => thn (hi.run pins s σ H _ I h) fun iv s1 ⟨y, H1, I1, ry, q1⟩ => thn (ho.run pins s1 σ H1 _ I1 q1) fun u s2 ⟨x, H2, I2, rx, d, es, k, ex, e, m, hk, dk, q2⟩ => ?_⟩
  subst ex
  cases (show u = Value.ref d from rx)
  show wpAny _ _ (do return Value.bool (!(← contains (.ref d) iv))) _ _ s2
  exact wpAny_bind (dx_has hu I2 e m hk dk ry fun s3 I3 => wpAny_pure ⟨.bl (!(valE es k).isSome), H2, I3, rfl, by simpa using q2⟩)
/-- d[k] = v -/
def sDPutX (w : World) (td ty tv : TE) : TS := fun D σ H => tv σ H fun v H1 => td σ H1 fun x H2 => ty σ H2 fun y H3 => ∃ (d : Addr) (es : List En) (k : NestedKey), x = .ref d ∧ H3 d = some (DE w d es) ∧ MixE H3 es ∧ KeyH H3 k y ∧ k.depth ≤ 8 ∧ es.length < sizeLine ∧ D.nx σ (upd H3 d (DE w d (putE es k y v)))
theorem dx_setItem {Q : Unit → Shared → Prop} (hu : A.in1.units + 8 < cLine) (I : Inv X pins σ H s) (hd : H d = some (DE X.w d es)) (m : MixE H es) (hk : KeyH H k y) (hd8 : k.depth ≤ 8) (hz : es.length < sizeLine) (ry : RelV y u) (rv : RelV v r) (h : ∀ s', Inv X pins σ (upd H d (DE X.w d (putE es k y v))) s' → Q () s') :
    wpAny (model X.prog X.w) A (setItem (.ref d) u r) Q E s := by
  have hT := dx_type I (.inl hd)
  unfold setItem
  try with_reducible refine wpAny_holding ?_
  refine wpAny_bind (wpAny_sequenceKey hT (by decide) (wpAny_bind (wpAny_callSpecial?_slot (name := Str.ofString "__setitem__") hT slot_dict_setitem (wpAny_call_entry slot_dict_setitem hT entry_dict_setitem ?_ (args_dict_setitem _ _ _)))))
  show wpAny _ _ (Builtin.Dict.notOrdered "__setitem__" ⟨[.ref d, u, r], []⟩ >>= fun _ => _) _ _ s
  refine wpAny_bind (wpAny_notOrdered_dict hT ?_)
  show wpAny _ _ (dictSet d u r >>= fun _ => _) _ _ s
  exact wpAny_bind (dx_dictSet hu I hd m hk hd8 hz ry rv fun s' I' => wpAny_pure ⟨.none, rfl, wpAny_pure (h _ I')⟩)
theorem ps_dputX {pos pos' : Pos} (hw : X.w = w) (hu : X.A.in1.units + 8 < cLine) (ho : PE X o td) (hi : PE X i ty) (hv : PE X value tv) (hs : swapsWith value (some (.Subscript o i pos')) pos.line X.env = pure false) : PS X (.Assign [.Subscript o i pos'] value pos) (sDPutX w td ty tv) := by
  subst hw
  refine ⟨fun pins s σ H D I h => wpAny_Assign_Subscript (thn (hv.run pins s σ H _ I h) fun r s1 ⟨v, H1, I1, rv, q1⟩ => thn (ho.run pins s1 σ H1 _ I1 q1) fun u s2 ⟨x, H2, I2, rx, q2⟩ => thn (hi.run pins s2 σ H2 _ I2 q2) fun iv s3 ⟨y, H3, I3, ry, d, es, k, ex, e, m, hk, dk, hz, q3⟩ => ?_) hs⟩
  subst ex
  cases (show u = Value.ref d from rx)
  exact dx_setItem hu I3 e m hk dk hz ry rv fun s4 I4 => ⟨σ, _, I4, q3⟩
/-! ### list(d) -/
theorem call_listX (hc : X.calm = true) : CallR X (.type "list") (fun xs H Q => ∃ (d : Addr) (es : List En), xs = [V.ref d] ∧ Rd H d (DE X.w d es) ∧ ∀ p, H p = none → Q (.ref p) (upd H p (.lst (es.map fun e => e.2.1)))) := by
  intro pins s σ H xs us Q I r h
  obtain ⟨d, es, rfl, e, q⟩ := h
  obtain ⟨u, rfl, ru⟩ := vals1 r
  cases (show u = Value.ref d from ru)
  obtain ⟨hs, hl, hle, ar, ⟨ob, ep, ho, hx, hdt⟩, hz, al⟩ := dx_rd I.hok e
  rw [List.length_map] at hz hle
  refine PySem.W.kdl_call (kdl_raw hs hx hdt) (I.ok.hd hc) ho (by omega) fun h' tk acc c kp oL it => ?_
  have la : acc.toList.length = es.length := by rw [Array.length_toList, it.1, hz]
  have rel : Vals (es.map fun e => e.2.1) acc.toList := vals_of_at (by rw [List.length_map, la]) fun j x z ex ez => by
    rw [List.getElem?_map] at ex
    obtain ⟨en, ee, rfl⟩ := Option.map_eq_some_iff.mp ex
    obtain ⟨de, hde, rfl⟩ := it.2 j z (by rw [← Array.getElem?_toList]; exact ez)
    exact (al j de en.1 en.2 hde (by rw [List.getElem?_map, ee]; rfl) (by rw [List.getElem?_map, ee]; rfl)).2.1
  exact ⟨.ref s.heap.objs.size, _, I.laid (t' := tk) (o := .lst (es.map fun e => e.2.1)) kp (Nat.le_refl _) ⟨by rw [List.length_map]; exact hle, acc.toList, c, rel, by rw [Array.toArray_toList]; exact oL⟩, rfl, q _ (I.hok.fresh (Nat.le_refl _))⟩
end
end L2.MK
/-! list(d.items()), dict(pairs): keys of any kind -/
namespace L2.MK
open PySem PySem.Spec PyProof.Rows SeqAt
section
variable {prog : Program} {w : World} {A : Around} {E : Value → Shared → Prop} {s : Shared} {d r : Addr} {es : Array DictEntry} {ep : Nat}
/-- list(view of the pairs) -/
theorem list_view {Q : Value → Shared → Prop} (calm : A.handled = none) (view : s.heap.IsItemsView r d) (raw : DT.Raw s.heap d es ep) (few : es.size ≤ sizeLine)
    (fin : ∀ (h' : Heap) (tk : Nat) (acc : Array Value) (c : Nat) (as : List Addr), (∀ b o, s.heap.get? b = some o → h'.get? b = some o) → h'.get? s.heap.objs.size = some { cls := .type "list", dict := none, data := .seq acc c, slots := #[] } → as.length = es.size → DT.Made es s.heap.objs.size h' as → acc.toList = as.map Value.ref →
      Q (.ref s.heap.objs.size) { s with heap := h', toks := tk }) : wpAny (model prog w) A (call (.type "list") [.ref r]) Q E s := by
  have rlt : r < s.heap.objs.size := let ⟨_, e, _⟩ := view; Heap.lt_size e
  have dlt : d < s.heap.objs.size := raw.lt
  refine callType_codes (Q₁ := fun obj s1 => obj = .ref s.heap.objs.size ∧ s1 = { s with heap := s.heap.push { cls := .type "list", data := .seq #[] } }) PySem.F.called_list (PySem.F.typeCall_list_1 _) PySem.F.entry_list_init (code_list_new _ ⟨rfl, rfl⟩) ?_
  rintro obj s1 ⟨rfl, rfl⟩
  have laid : (s.heap.push { cls := .type "list", data := .seq #[] }).get? s.heap.objs.size = some { cls := .type "list", data := .seq #[] } := Heap.get?_push_size _ rfl
  have push : ∀ {b : Addr} {o : Obj}, s.heap.get? b = some o → (s.heap.push { cls := .type "list", data := .seq #[] }).get? b = some o := fun e => Heap.get?_push_of_some _ e
  refine ⟨⟨_, laid, rfl⟩, PySem.F.args_list_init_2 _ _, ?_⟩
  show wpAny _ _ (do let old ← Builtin.List.listItems (.ref s.heap.objs.size); Builtin.List.listUpdate (.ref s.heap.objs.size) (fun _ => #[]); letGo old.toList.reverse; Builtin.List.listExtendWith (.ref s.heap.objs.size) (.ref r) .none) _ _ _
  unfold Builtin.List.listItems
  refine wpAny_bind (wpAny_bind (wpAny_seqItems laid rfl (wpAny_pure ?_)))
  show wpAny _ _ (updateSeq s.heap.objs.size (fun _ => #[]) >>= fun _ => letGo (#[] : Array Value).toList.reverse >>= fun _ => Builtin.List.listExtendWith (.ref s.heap.objs.size) (.ref r) .none) _ _ _
  have laid2 := Heap.get?_update_self (Obj.mapSeq (fun _ => (#[] : Array Value))) laid rfl
  have other : ∀ {b : Addr} {o : Obj}, b ≠ s.heap.objs.size → (s.heap.push { cls := .type "list", data := .seq #[] }).get? b = some o → ((s.heap.push { cls := .type "list", data := .seq #[] }).update s.heap.objs.size (Obj.mapSeq (fun _ => (#[] : Array Value)))).get? b = some o := fun nb e => (Heap.get?_update_other _ _ (Ne.symm nb)).trans e
  refine wpAny_bind (wpAny_updateSeq laid rfl (wpAny_bind (wpAny_letGo ?_)))
  refine DT.extI (prog := prog) (w := w) (A := A.in1) (s := { s with heap := (s.heap.push { cls := .type "list", data := .seq #[] }).update s.heap.objs.size (Obj.mapSeq (fun _ => (#[] : Array Value))) }) calm (let ⟨o, e, x⟩ := view; ⟨o, other (Nat.ne_of_lt rlt) (push e), x⟩) (raw.at' fun o e => other (Nat.ne_of_lt dlt) (push e)) _ (Nat.ne_of_gt rlt) (Nat.ne_of_lt dlt) .none _ laid2 (fun h' tk acc c as keep oL la mk ea => ?_) few
  exact ⟨rfl, fin h' tk acc c as (fun b o e => keep b o (Nat.ne_of_lt (Heap.lt_size e)) (other (Nat.ne_of_lt (Heap.lt_size e)) (push e))) oL la (mk.low (Nat.le_of_lt (Heap.lt_size laid2))) ea⟩
end
section
variable {X : Cx} {pins : List (Addr × Obj)} {σ : L2.St} {H : Hp} {s : Shared} {e : Expr} {te : TE} {p apos cpos pos : Pos} {w : World}
/-- the pairs, each a new tuple, in a new list -/
def tItemsX (w : World) (te : TE) : TE := fun σ H Q => te σ H fun x H1 => ∃ (d : Addr) (es : List En), x = .ref d ∧ Rd H1 d (DE w d es) ∧ ∀ (H' : Hp) (q : Addr) (ts : List Addr), Same H1 H' → H1 q = none → H' q = some (.lst (ts.map V.ref)) → Paired (fun (t : Addr) (x : En) => H1 t = none ∧ H' t = some (.tup [x.2.1, x.2.2])) ts es → Q (.ref q) H'
theorem nth_pair {α β : Type} {R : α → β → Prop} : ∀ (xs : List α) (ys : List β), xs.length = ys.length → (∀ (i : Nat) (x : α) (y : β), xs[i]? = some x → ys[i]? = some y → R x y) → Paired R xs ys
  | [], [], _, _ => .nil
  | x :: xs, y :: ys, l, h => .cons (h 0 x y rfl rfl) (nth_pair xs ys (by simpa using l) fun i a b ea eb => h (i + 1) a b ea eb)
  | [], _ :: _, l, _ => by simp at l
  | _ :: _, [], l, _ => by simp at l
theorem pe_itemsX (hw : X.w = w) (hc : X.calm = true) (he : PE X e te) (hg : Gl X "list") (hm : X.mg "list" = none) (hv : bootBuiltins "list" = some (.type "list")) (hbase : attributeBase e "items" X.env (eval e X.env) = eval e X.env := by rfl) (hline : (apos.endLine == cpos.line) = true := by rfl)
    (hs : starEach [.Call (.Attribute e "items" apos) [] [] cpos] X.env = (false, eval (.Call (.Attribute e "items" apos) [] [] cpos) X.env) :: starEach [] X.env := by rfl) :
    PE X (.Call (.Name "list" p) [.Call (.Attribute e "items" apos) [] [] cpos] [] pos) (tItemsX w te) := by
  subst hw
  refine ⟨fun pins s σ H Q I reading => wpAny_Call_Name_kw (ld_blt I hg hm hv (PyProof.Rows.callWith_type1 ?_ hs rfl))⟩
  rw [hs]
  show wpAny _ _ (spliced ((false, eval (.Call (.Attribute e "items" apos) [] [] cpos) X.env) :: backTo pos (starEach [] X.env))) _ _ s
  refine Calls.spliced_cons (wpAny_Call_method (T := "dict") (id := "dict.items") hbase rfl hline F.plainAttrs_dict F.slot_dict_items F.type_dict_items (thn (he.run pins s σ H _ I reading) fun u sA ⟨x, HA, IA, rx, d, es, ex, rd, q⟩ => ?_))
  subst ex
  cases (show u = Value.ref d from rx)
  have hT := dx_type IA rd
  obtain ⟨sysn, hl, hle, ar, ⟨ob, ep, ho, hx, hdt⟩, hz, al⟩ := dx_rd IA.hok rd
  rw [List.length_map] at hle hz
  refine ⟨hT, dx_noDict IA rd, ?_⟩
  have IB : Inv X pins σ HA { sA with heap := sA.heap.push { cls := .type "dict_items", data := .fields #[.ref d] } } := IA.kept (t' := sA.toks) fun b ob q => Heap.get?_push_of_some _ q
  show wpAny _ _ (callWith cpos (.builtin "dict.items") [.ref d] [] []) _ X.xe sA
  refine method_meetsIn F.slot_dict_items F.entry_dict_items rfl (PySem.evalArgs_none ⟨rfl, hT, F.args_dict_items_1 _, _, DT.meetsItems (ep := ep) sysn, ⟨⟨ob, ho, hx, hdt⟩, ?_⟩⟩)
  refine Calls.spliced_nil (list_view (ep := ep) (es := ar) (d := d) (IA.ok.hd hc) ⟨_, Heap.get?_push_size _ rfl, rfl, rfl⟩ ⟨ob, Heap.get?_push_of_some _ ho, hx, hdt⟩ (by omega) fun h' tk acc c as keep oL la mk ea => ?_)
  generalize ({ sA with heap := sA.heap.push { cls := .type "dict_items", data := .fields #[.ref d] } } : Shared) = sB at IB keep oL mk
  have low : ∀ t ∈ as, sB.heap.objs.size < t := mk.above
  have unlike : as.Nodup := List.Pairwise.imp (fun {a b} (h : a < b) => Nat.ne_of_lt h) mk.rise
  have newS : HA sB.heap.objs.size = none := IB.hok.fresh (Nat.le_refl _)
  have newT : ∀ t ∈ as, HA t = none := fun t ht => IB.hok.fresh (Nat.le_of_lt (low t ht))
  have lae : as.length = es.length := by rw [la, hz]
  have relS : Vals (as.map V.ref) acc.toList := by rw [ea]; exact LiI.vals_refs as
  have IC : Inv X pins σ (upd HA sB.heap.objs.size (.lst (as.map V.ref))) { sB with heap := h', toks := tk } := IB.laid (t' := tk) keep (Nat.le_refl _) ⟨by rw [List.length_map, lae]; exact hle, acc.toList, c, relS, by rw [Array.toArray_toList]; exact oL⟩
  obtain ⟨HD, ID, grow, at_⟩ := DX.takeT (P := fun t vs => ∀ (j : Nat) (x : En), as[j]? = some t → es[j]? = some x → vs = [x.2.1, x.2.2]) IB as _ IC unlike fun t ht => by
    refine ⟨Nat.le_of_lt (low t ht), by rw [upd_ne (Nat.ne_of_gt (low t ht))]; exact newT t ht, ?_⟩
    obtain ⟨j, hj⟩ := List.mem_iff_getElem?.mp ht
    have lt : j < es.length := by rw [← lae]; exact (List.getElem?_eq_some_iff.mp hj).1
    obtain ⟨de, hde, obT⟩ := mk.pairs j t hj
    obtain ⟨_, r1, r2⟩ := al j de es[j].1 es[j].2 hde (by rw [List.getElem?_map, List.getElem?_eq_getElem lt]; rfl) (by rw [List.getElem?_map, List.getElem?_eq_getElem lt]; rfl)
    refine ⟨[es[j].2.1, es[j].2.2], fun i x e1 e2 => ?_, fun H2 => ⟨by show 2 ≤ sizeLine; decide, [de.key, de.val], .cons r1 (.cons r2 .nil), ⟨_, obT, rfl, _, rfl⟩⟩⟩
    obtain rfl : i = j := (List.getElem?_inj (List.getElem?_eq_some_iff.mp e1).1 unlike).mp (e1.trans hj.symm)
    rw [List.getElem?_eq_getElem lt] at e2
    rw [← Option.some.inj e2]
  have same : Same HA HD := fun b o z => grow b o (by rw [upd_ne (ne_of_none z newS)]; exact z)
  refine ⟨.ref _, HD, ID, rfl, q HD _ as same newS (grow _ _ upd_same) (nth_pair as es lae fun i t x e1 e2 => ⟨newT t (List.mem_of_getElem? e1), ?_⟩)⟩
  obtain ⟨vs, pv, ot⟩ := at_ t (List.mem_of_getElem? e1)
  rw [ot, pv i x e1 e2]
end
end L2.MK
/-! dict(pairs): keys of any kind -/
namespace L2.MK
open PySem PySem.Spec PyProof.Rows SeqAt
def putsE (acc rest : List En) : List En := rest.foldl (fun a x => putE a x.1 x.2.1 x.2.2) acc
theorem putsE_length : ∀ (rest acc : List En), (putsE acc rest).length ≤ acc.length + rest.length
  | [], acc => Nat.le_refl _
  | x :: rest, acc => by
    have h1 := putsE_length rest (putE acc x.1 x.2.1 x.2.2)
    have h2 := putE_length acc x.1 x.2.1 x.2.2
    show (putsE (putE acc x.1 x.2.1 x.2.2) rest).length ≤ _
    rw [List.length_cons]
    omega
section
variable {X : Cx} {pins : List (Addr × Obj)} {σ : L2.St} {H : Hp} {A : Around}
theorem sqT_keep {K : PySem.W.Frag} {H H' : Hp} {a : Addr} {xs : List V} (h : SqT K H a xs) (s : Same H H') : SqT K H' a xs := h.imp (fun r => r.imp (s _ _) fun ⟨o, e⟩ => ⟨o, s _ _ e⟩) id
theorem new_keeps {H : Hp} {p : Addr} {o : HO} (n : H p = none) : Same H (upd H p o) := fun c u z => by rw [upd_ne (ne_of_none z n)]; exact z
/-- what is known of a pair -/
structure PairX (K : PySem.W.Frag) (H : Hp) (b : Addr) (x : En) : Prop where
  t : SqT K H b [x.2.1, x.2.2]
  k : KeyH H x.1 x.2.1
  d : x.1.depth ≤ 8
theorem PairX.same {K : PySem.W.Frag} {H H' : Hp} {b : Addr} {x : En} (h : PairX K H b x) (s : Same H H') : PairX K H' b x := ⟨sqT_keep h.t s, h.k.mono fun _ _ e => s _ _ e, h.d⟩
theorem upd_walk {R : Result → Shared → Prop} {S it l : Addr} {bs : List Addr} {res : Value} (calm : A.handled = none) (hu : A.in1.units + 8 < cLine) (newS : H S = none) (newI : H it = none) (apart : it ≠ S) (il : l ≠ it) (ol : SqL X.K H l (bs.map V.ref))
    (off : it ≠ X.env.locals ∧ (it ∈ X.ex ∨ X.s_0.heap.objs.size ≤ it) ∧ (∀ (x : Str) (c : Addr), X.env.cells.lookup x = some c → c ≠ it) ∧ ∀ p ∈ X.pn ++ pins, p.1 ≠ it) :
    ∀ (rest : List En) (i : Nat) (acc : List En) (ix : Int) (t : Tok) (s : Shared), bs.length = i + rest.length → acc.length + rest.length ≤ sizeLine → (∀ (j : Nat) (x : En), rest[j]? = some x → ∃ b, bs[i + j]? = some b ∧ PairX X.K H b x) → s.heap.IsListIter it l i →
      MixE H acc → Inv X pins σ (upd H S (DE X.w S acc)) s → (∀ s', Inv X pins σ (upd H S (DE X.w S (putsE acc rest))) s' → R (.ok (.ret res)) s') → codeAny (model X.prog X.w) A (.builtin "dict.update.loop" ⟨[.ref S, .ref it, .int ix t, res], []⟩) R s := by
  have grow : ∀ es : List En, Same H (upd H S (DE X.w S es)) := fun es => new_keeps newS
  intro rest
  induction rest with
  | nil =>
    intro i acc ix t s len short pr iter mix I fin
    obtain ⟨its, rv, ls, _⟩ := I.list ((grow acc).seq ol)
    obtain rfl := refs_at rv
    refine codeAny_builtin ud_entry ?_
    rw [Around.under_plainId ud_plain _]
    show wpAny _ A.in1 (pyNext (.ref it) >>= fun _ => _) _ _ s
    refine wpAny_bind (wpAny_pyNext_list_end (A := A.in1) calm iter ls.isList (Array.getElem?_eq_none (by simp at len; simp [len])) fun h' ext => ?_)
    show wpAny _ A.in1 (Builtin.Dict.addKeywords S [] >>= fun _ => _) _ _ _
    refine wpAny_bind (wpAny_pure (wpAny_pure ?_))
    exact (fin _ (I.turned (t' := s.toks) (fun b ob hb e => ext b ob hb e) (by rw [upd_ne apart]; exact newI) off.1 off.2.1 off.2.2.1 off.2.2.2))
  | cons x rest more =>
    intro i acc ix t s len short pr iter mix I fin
    rw [List.length_cons] at len short
    obtain ⟨b, eb, px⟩ := pr 0 x rfl
    rw [Nat.add_zero] at eb
    obtain ⟨its, rv, ls, _⟩ := I.list ((grow acc).seq ol)
    obtain rfl := refs_at rv
    refine codeAny_builtin ud_entry ?_
    rw [Around.under_plainId ud_plain _]
    show wpAny _ A.in1 (pyNext (.ref it) >>= fun _ => _) _ _ s
    refine wpAny_bind (wpAny_pyNext_list_item (x := .ref b) iter ls.isList (by simp [eb]) fun h1 iter1 same1 => ?_)
    have I1 : Inv X pins σ (upd H S (DE X.w S acc)) { s with heap := h1 } := I.turned (t' := s.toks) (fun c ob hb e => (same1.2 c hb).trans e) (by rw [upd_ne apart]; exact newI) off.1 off.2.1 off.2.2.1 off.2.2.2
    have px1 := px.same (grow acc)
    obtain ⟨ws, rw_, tup, _⟩ := I1.tuple px1.t
    obtain ⟨u, r, rfl, ru, rr⟩ := vals2 rw_
    obtain ⟨o, ho, hcls, n, hdat⟩ := id tup
    show wpAny _ A.in1 (holding [Value.ref b] _ >>= fun _ => _) _ _ _
    refine wpAny_bind (wpAny_holding (wpAny_bind (wpAny_tryCatch ?_)))
    unfold Builtin.Dict.pairItems
    refine wpAny_bind (wpAny_typeOf (T := "tuple") ⟨o, ho, hcls⟩ ?_)
    rw [if_pos (by first | decide | rfl | simp)]
    refine wpAny_bind (wpAny_seqItems ho hdat (wpAny_pure ?_))
    show wpAny _ A.in1 (holding [u, r] (dictSet S u r)) _ _ _
    refine wpAny_holding (dx_dictSetS hu I1 upd_same (mix.mono fun a vs e => grow acc _ _ e) px1.k px.d (by omega) ru rr fun h2 t2 same2 I2 => ?_)
    rw [upd_upd] at I2
    refine wpAny_pure ⟨plainId_quiet ud_plain _, more (i + 1) (putE acc x.1 x.2.1 x.2.2) (ix + 1) 0 _ (by omega) (by have := putE_length acc x.1 x.2.1 x.2.2; omega) (fun j y e => ?_) (iter1.at fun ob e => same2.extBut it ob apart e) (mix.put px.k px.d) I2 fin⟩
    obtain ⟨b', e', p'⟩ := pr (j + 1) y (by simpa using e)
    exact ⟨b', by rw [show i + 1 + j = i + (j + 1) by omega]; exact e', p'⟩
/-- dict(xs), xs a list of pairs: later pairs win -/
theorem call_dictPX (hc : X.calm = true) (hu : X.A.in1.in1.units + 8 < cLine) : CallR X (.type "dict") (fun xs H Q => ∃ (a : Addr) (ps : List Addr) (es : List En), xs = [.ref a] ∧ SqL X.K H a (ps.map V.ref) ∧ Paired (fun b x => PairX X.K H b x) ps es ∧
    ∀ p, H p = none → MixE (upd H p (DE X.w p (putsE [] es))) (putsE [] es) → Q (.ref p) (upd H p (DE X.w p (putsE [] es)))) := by
  rintro pins s σ H xs us Q I r ⟨a, ps, es, rfl, ol, pr, q⟩
  obtain ⟨u, rfl, ru⟩ := vals1 r
  cases (show u = Value.ref a from ru)
  obtain ⟨its, rv, ⟨ob, n, ho, hcls, hnd, hdat⟩, hz⟩ := I.list ol
  rw [List.length_map] at hz
  have calm := I.ok.hd hc
  have lp : ps.length = es.length := Paired.length pr
  refine callType_codes (Q₁ := fun obj s1 => obj = .ref s.heap.objs.size ∧ s1 = { s with heap := s.heap.push { cls := .type "dict", data := .dict #[] } }) PySem.F.kt_called_dict (PySem.F.kt_typeCall_dict_1 _) PySem.F.entry_dict_init (kt_code_dict_new _ ⟨rfl, rfl⟩) ?_
  rintro obj s1 ⟨rfl, rfl⟩
  have newS : H s.heap.objs.size = none := I.hok.fresh (Nat.le_refl _)
  have I1 : Inv X pins σ (upd H s.heap.objs.size (DE X.w s.heap.objs.size [])) { s with heap := s.heap.push { cls := .type "dict", data := .dict #[] } } := I.laid (t' := s.toks) (fun b o e => Heap.get?_push_of_some _ e) (Nat.le_refl _) (dx_empty I.big)
  have hT := dx_type I1 (.inl upd_same)
  refine ⟨hT, PySem.F.args_dict_init_2 _ _, ?_⟩
  unfold Builtin.«dict.__init__»
  refine wpAny_bind ?_
  unfold Builtin.Dict.selfAndRest
  refine wpAny_bind (wpAny_notOrdered_dict hT ?_)
  show wpAny _ _ (pure (s.heap.objs.size, [Value.ref a])) _ _ _
  refine wpAny_pure ?_
  show wpAny _ _ (Builtin.Dict.updateFrom "dict.__init__" s.heap.objs.size (.ref a) [] .none) _ _ _
  unfold Builtin.Dict.updateFrom
  have ho1 : (s.heap.push { cls := .type "dict", data := .dict #[] }).get? a = some ob := Heap.get?_push_of_some _ ho
  refine wpAny_bind (wpAny_typeOf (T := "list") ⟨ob, ho1, hcls⟩ ?_)
  rw [if_pos (by first | decide | rfl | simp)]
  refine wpAny_bind (miss_list ho1 hcls hdat hnd calm fun h1 tk1 keep1 => ?_)
  rw [if_pos (show (none : Option Value).isNone = true from rfl)]
  refine wpAny_bind (wpAny_rule ?_)
  have I2 : Inv X pins σ (upd H s.heap.objs.size (DE X.w s.heap.objs.size [])) { s with heap := h1, toks := tk1 } := I1.kept (t' := tk1) keep1
  refine wpAny_bind (wpAny_pyIter_list ⟨ob, keep1 _ _ ho1, hcls, n, hdat⟩ ?_)
  have I3 : Inv X pins σ (upd H s.heap.objs.size (DE X.w s.heap.objs.size [])) { s with heap := h1.push { cls := .type "list_iterator", data := .fields #[.ref a, .int 0 0] }, toks := tk1 } := I2.kept (t' := tk1) fun b o e => Heap.get?_push_of_some _ e
  have freeI : (upd H s.heap.objs.size (DE X.w s.heap.objs.size [])) h1.objs.size = none := I2.hok.fresh (Nat.le_refl _)
  obtain ⟨_, f1, f2, f3, f4, f5⟩ := I2.fpOk (Nat.le_refl _) freeI
  have apart : h1.objs.size ≠ s.heap.objs.size := fun z => by rw [z, upd_same] at freeI; cases freeI
  rw [upd_ne apart] at freeI
  have go := upd_walk (X := X) (pins := pins) (σ := σ) (A := X.A.in1) (R := wants (fun r s2 => r = .none ∧ EP X pins σ Q (.ref s.heap.objs.size) s2) X.xe) (S := s.heap.objs.size) (it := h1.objs.size) (l := a) (bs := ps) (res := Value.none) calm hu newS freeI apart (Nat.ne_of_lt (Heap.lt_size (keep1 _ _ ho1))) ol ⟨f1, f3, f4, f5⟩ es 0 [] 0 0
    { s with heap := h1.push { cls := .type "list_iterator", data := .fields #[.ref a, .int 0 0] }, toks := tk1 } (by rw [Nat.zero_add]; exact lp) (by rw [List.length_nil, Nat.zero_add, ← lp]; exact hz)
    (fun j x e => by
      rw [Nat.zero_add]
      have lt : j < ps.length := by rw [lp]; exact (List.getElem?_eq_some_iff.mp e).1
      obtain ⟨y, ey, py⟩ := paired_get pr (List.getElem?_eq_getElem lt)
      rw [e] at ey
      obtain rfl := Option.some.inj ey
      exact ⟨_, List.getElem?_eq_getElem lt, py⟩)
    ⟨_, Heap.get?_push_size _ rfl, rfl, rfl⟩ ⟨fun i k p e => by simp at e, List.nodup_nil, fun _ z => by cases z⟩ I3
  have mixed : ∀ (rest acc : List En) (bs : List Addr), Paired (fun b x => PairX X.K H b x) bs rest → MixE H acc → MixE H (putsE acc rest) := fun rest => by
    induction rest with
    | nil => intro acc bs _ m; exact m
    | cons x rest ih =>
      intro acc bs pr m
      cases pr with
      | cons px pr => exact ih _ _ pr (m.put px.k px.d)
  have mx := mixed es [] ps pr ⟨fun i k p e => by simp at e, List.nodup_nil, fun _ z => by cases z⟩
  have fin := go fun s' I' => ⟨rfl, .ref s.heap.objs.size, _, I', rfl, q _ newS (mx.mono fun b vs e => new_keeps newS _ _ e)⟩
  first
    | exact wpAny_pure ⟨plainId_quiet ud_plain _, fin⟩
    | exact wpAny_bind (wpAny_pure (wpAny_pure ⟨plainId_quiet ud_plain _, fin⟩))
end
end L2.MK
/-! == and != of alike dicts: keys of any kind -/
namespace L2.MK
open PySem PySem.Spec PyProof.Rows SeqAt
section
variable {X : Cx} {pins : List (Addr × Obj)} {σ : L2.St} {H : Hp} {s : Shared} {A : Around} {E : Value → Shared → Prop} {a b : Addr} {es fs : List En}
theorem dx_same {nm : String} {Q : Bool → Shared → Prop} (hu : A.units + 8 < cLine) (I : Inv X pins σ H s) (ea : Rd H a (DE X.w a es)) (eb : Rd H b (DE X.w b fs)) (ma : MixE H es) (mb : MixE H fs) (len : es.length = fs.length) (alike : ∀ e ∈ es, valE fs e.1 = some e.2.2 ∧ flatB e.2.2 = true) (h : Q true s) :
    wpAny (model X.prog X.w) A (Builtin.Dict.samePairs nm a b) Q E s := by
  obtain ⟨sa, la, _, ra, ⟨oa, epa, hoa, _, hda⟩, za, ala⟩ := dx_rd I.hok ea
  obtain ⟨sb, lb, _, rb, ⟨ob, epb, hob, _, hdb⟩, zb, alb⟩ := dx_rd I.hok eb
  have ena := dx_ents I.hok ma la za ala
  have enb := dx_ents I.hok mb lb zb alb
  rw [List.length_map] at za zb
  unfold Builtin.Dict.samePairs Builtin.Dict.showsAll
  rw [if_neg (by rw [sa]; exact Bool.false_ne_true), if_neg (by rw [sb]; exact Bool.false_ne_true)]
  refine wpAny_bind (wpAny_pure (wpAny_bind (wpAny_pure (wpAny_bind (wpAny_dictEntries hoa hda ?_)))))
  dsimp only
  refine wpAny_bind (wpAny_dictEntries hob hdb ?_)
  rw [if_neg (by simp [za, zb, len])]
  refine wpAny_bind (wpAny_dictEpoch hoa hda (wpAny_bind ?_))
  rw [Std.Legacy.Range.forIn_eq_forIn_range']
  simp only [Std.Legacy.Range.size, Nat.sub_zero, Nat.add_sub_cancel, Nat.div_one]
  refine wpAny_forIn_list _ (fun rest q s' => s' = s ∧ q = (none, ()) ∧ ∀ i ∈ rest, i < ra.size) _ ?_ ?_ _ _ ⟨rfl, rfl, fun i hi => by have := List.mem_range'_1.mp hi; omega⟩
  · rintro i rest q s' ⟨rfl, rfl, below⟩
    have lt := below i (by simp)
    have lt2 : i < es.length := by omega
    obtain ⟨_, r1, r2⟩ := ala i ra[i] es[i].1 es[i].2 (Array.getElem?_eq_getElem lt) (by rw [List.getElem?_map, List.getElem?_eq_getElem lt2]; rfl) (by rw [List.getElem?_map, List.getElem?_eq_getElem lt2]; rfl)
    obtain ⟨k1, k2⟩ := ena.is_ i ra[i] es[i].1 (Array.getElem?_eq_getElem lt) (by rw [List.getElem?_map, List.getElem?_eq_getElem lt2]; rfl)
    have dp : es[i].1.depth ≤ 8 := ma.dp _ (List.mem_map.mpr ⟨_, List.getElem_mem lt2, rfl⟩)
    obtain ⟨va, fa⟩ := alike es[i] (List.getElem_mem lt2)
    obtain ⟨j, f, ef, fk, fv⟩ := valE_in va
    have keyj : (fs.map (·.1))[j]? = some es[i].1 := by rw [List.getElem?_map, ef, Option.map_some, fk]
    refine wpAny_bind (wpAny_dictEntries hoa hda ?_)
    rw [Array.getElem?_eq_getElem lt]
    dsimp only
    refine wpAny_bind (wpAny_holding (wpAny_bind ?_))
    rw [k2]
    refine nk_find hu k1 dp hob hdb enb (fun n => absurd (List.mem_of_getElem? keyj) n) fun j' hj' => ?_
    obtain rfl : j' = j := (List.getElem?_inj (List.getElem?_eq_some_iff.mp hj').1 mb.nd).mp (hj'.trans keyj.symm)
    have ltb : j' < rb.size := by rw [zb]; exact (List.getElem?_eq_some_iff.mp ef).1
    obtain ⟨_, _, r3⟩ := alb j' rb[j'] f.1 f.2 (Array.getElem?_eq_getElem ltb) (by rw [List.getElem?_map, ef]; rfl) (by rw [List.getElem?_map, ef]; rfl)
    rw [fv] at r3
    dsimp only
    refine wpAny_bind (wpAny_dictEntries hob hdb ?_)
    rw [Array.getElem?_eq_getElem ltb]
    dsimp only
    refine wpAny_holding (eqAt_same r2 r3 fa X.prog X.w _ _ ?_)
    show wpAny _ _ (if (!true) = true then _ else _) _ _ _
    rw [if_neg (by decide)]
    refine wpAny_bind (wpAny_dictEpoch hoa hda ?_)
    rw [if_neg (by simp)]
    exact wpAny_pure ⟨rfl, rfl, fun i hi => below i (List.mem_cons_of_mem _ hi)⟩
  · rintro q s' ⟨rfl, rfl, _⟩
    exact wpAny_pure h
def rEqX (w : World) (neg : Bool) : R2 := fun x y H Q => ∃ (a b : Addr) (es fs : List En), x = .ref a ∧ y = .ref b ∧ Rd H a (DE w a es) ∧ Rd H b (DE w b fs) ∧ MixE H es ∧ MixE H fs ∧ es.length = fs.length ∧ (∀ e ∈ es, valE fs e.1 = some e.2.2 ∧ flatB e.2.2 = true) ∧ Q (.bl (!neg)) H
theorem op_eqX {w : World} (hw : X.w = w) (hu : X.A.in1.units + 8 < cLine) (hr : X.A.units < cLine) : OpR X (compareOp .Eq) (rEqX w false) := by
  subst hw
  rintro pins s σ H x y v u Q I rx ry ⟨a, b, es, fs, rfl, rfl, ea, eb, ma, mb, len, al, q⟩
  cases (show v = Value.ref a from rx)
  cases (show u = Value.ref b from ry)
  have ta := dx_type I ea
  have tb := dx_type I eb
  refine wpAny_richCompare_same_room (op := .Eq) ta tb PySem.F.slot_dict_eq (wpAny_call_entry PySem.F.slot_dict_eq ta PySem.F.entry_dict_eq ?_ (PySem.F.args_dict_eq_2 _ _)) hr
  show wpAny _ _ (Builtin.Dict.dictSlotArgs "__eq__" ⟨[.ref a, .ref b], []⟩ >>= fun _ => _) _ _ s
  refine wpAny_bind ?_
  unfold Builtin.Dict.dictSlotArgs
  refine wpAny_bind (wpAny_notOrdered_dict ta ?_)
  show wpAny _ _ (pure (Value.ref a, Value.ref b)) _ _ s
  refine wpAny_pure (wpAny_bind (wpAny_isInstance (T := "dict") tb PySem.F.sub_dict_dict ?_))
  simp only [Bool.not_true, Bool.false_eq_true, if_false]
  refine wpAny_bind (wpAny_pure (wpAny_bind (wpAny_pure (wpAny_bind (dx_same hu I ea eb ma mb len al ?_)))))
  exact wpAny_pure ⟨_, rfl, (fun x => nomatch x), ⟨.bl true, H, I, rfl, q⟩⟩
theorem op_neX {w : World} (hw : X.w = w) (hu : X.A.in1.units + 8 < cLine) (hr : X.A.units < cLine) : OpR X (compareOp .NotEq) (rEqX w true) := by
  subst hw
  rintro pins s σ H x y v u Q I rx ry ⟨a, b, es, fs, rfl, rfl, ea, eb, ma, mb, len, al, q⟩
  cases (show v = Value.ref a from rx)
  cases (show u = Value.ref b from ry)
  have ta := dx_type I ea
  have tb := dx_type I eb
  refine wpAny_richCompare_same_room (op := .NotEq) ta tb PySem.F.slot_dict_ne (wpAny_call_entry PySem.F.slot_dict_ne ta PySem.F.entry_dict_ne ?_ (PySem.F.args_dict_ne_2 _ _)) hr
  show wpAny _ _ (Builtin.Dict.dictSlotArgs "__ne__" ⟨[.ref a, .ref b], []⟩ >>= fun _ => _) _ _ s
  refine wpAny_bind ?_
  unfold Builtin.Dict.dictSlotArgs
  refine wpAny_bind (wpAny_notOrdered_dict ta ?_)
  show wpAny _ _ (pure (Value.ref a, Value.ref b)) _ _ s
  refine wpAny_pure (wpAny_bind (wpAny_isInstance (T := "dict") tb PySem.F.sub_dict_dict ?_))
  simp only [Bool.not_true, Bool.false_eq_true, if_false]
  refine wpAny_bind (wpAny_pure (wpAny_bind (wpAny_pure (wpAny_bind (dx_same hu I ea eb ma mb len al ?_)))))
  exact wpAny_pure ⟨_, rfl, (fun x => nomatch x), ⟨.bl false, H, I, rfl, q⟩⟩
end
end L2.MK
namespace L2.TB
open PySem PySem.Spec PyProof.Rows
/-! ### the spring of draws -/
structure StrmAt (H : Hp) (l ls : Addr) (cs : List Int) (g k m N : Int) : Prop where
  o : H l = some (.lst [.ref ls, .int g, .int k, .int m])
  c : H ls = some (.lst (cs.map V.int))
  ne : ls ≠ l
  g0 : 0 ≤ g
  k0 : 0 ≤ k
  k1 : k ≤ N
  m0 : 0 ≤ m
  m1 : m < 2147483647
  sz : cs.length ≤ 100
def Strm (H : Hp) (l ls : Addr) (N : Int) : Prop := ∃ cs g k m, StrmAt H l ls cs g k m N
/-- all but the spring is as it was -/
def But (l ls : Addr) (H H' : Hp) : Prop := ∀ b o, b ≠ l → b ≠ ls → H b = some o → H' b = some o
theorem But.refl (l ls : Addr) (H : Hp) : But l ls H H := fun _ _ _ _ e => e
theorem But.trans {l ls : Addr} {H H1 H2 : Hp} (a : But l ls H H1) (b : But l ls H1 H2) : But l ls H H2 := fun c o h1 h2 e => b c o h1 h2 (a c o h1 h2 e)
theorem But.of {l ls : Addr} {H H' : Hp} (a : Same H H') : But l ls H H' := fun c o _ _ e => a c o e
theorem But.upd {l ls a : Addr} {H : Hp} {o : HO} (h : a = l ∨ a = ls) : But l ls H (upd H a o) := fun b u h1 h2 e => by
  have ne : b ≠ a := by rcases h with h | h <;> (subst h; assumption)
  rw [upd_ne ne]; exact e
theorem dp_ints {K : PySem.W.Frag} {H : Hp} : ∀ cs : List Int, DpAll K H (cs.map V.int) (cs.map PyData.int)
  | [] => .nil
  | c :: cs => .cons (.int c) (dp_ints cs)
def spDraw : Sp := fun vs H Q _ => ∃ (l ls : Addr) (many N : Int), vs = [.ref l, .int many] ∧ Strm H l ls N ∧ N ≤ 1000000 ∧ 0 < many ∧ many < 1000 ∧
  ∀ H' r, 0 ≤ r → r < many → Strm H' l ls (N + 1) → But l ls H H' → Q (.int r) H'
theorem scDraw : FnScope ["stream", "many", "cell", "digit", "mixed"] ["stream", "many"] (defScope sDraw) := ⟨rfl, rfl, rfl, by decide +kernel, rfl, by decide +kernel, by decide +kernel⟩
theorem pow_nn (a : Int) (h : 0 ≤ a) : 0 ≤ a ^ (Int.toNat 5) := Int.pow_nonneg h
theorem at0 {a b c d : V} : atI [a, b, c, d] 0 = some a := rfl
theorem at1 {a b c d : V} : atI [a, b, c, d] 1 = some b := rfl
theorem at2 {a b c d : V} : atI [a, b, c, d] 2 = some c := rfl
theorem at3 {a b c d : V} : atI [a, b, c, d] 3 = some d := rfl
theorem draw_end {A B C many : Int} (h : 0 < many) : 0 ≤ A % B % many ∧ A % B % many < many :=
  ⟨Int.emod_nonneg _ (by omega), Int.emod_lt_of_pos _ h⟩
section
variable {P : Program} {w : World} {K : PySem.W.Frag} {mg : Str → Option Value} {base : Heap} {f : Addr} {fd : FuncData}
theorem ok_draw (F : Fun K "_law_draw" "_law_draw" sDraw f fd) (gI : mg "int" = none) : FnOk P w K mg base CX0 1 f fd ["stream", "many"] spDraw := by
  refine F.ok scDraw (fun vs H Q E h => by obtain ⟨l, ls, many, N, e, _⟩ := h; rw [e]; rfl) fun cdv A outer s H vs Q E hr hsp => ?_
  obtain ⟨l, ls, many, N, rfl, ⟨cs, g, k, m, S⟩, hN, h0, h1, hq⟩ := hsp
  have nd := scDraw.nd
  have hu := hu_of hr
  have hu64 := hr.units
  obtain ⟨tl, ptl, htl⟩ : ∃ t, PSs (cxOf CX0 P w K mg base ["stream", "many", "cell", "digit", "mixed"] "_law_draw" (defScope sDraw) f cdv A outer s H E).nox ((defBody sDraw).drop 2) t ∧
      ∀ (H1 : Hp) (c : Option V) (cs : List Int) (g k m : Int), StrmAt H1 l ls cs g k m (N + 1) → But l ls H H1 →
        t { nx := fun _ H' => Q .non H', rt := Q } [some (.ref l), some (.int many), c, none, none] H1 := by
    refine ⟨_, pss_cons (ps_if (pt_cmpR op_gt (pe_ix ix_list (pv 0) pe_int (fun _ _ => rfl)) pe_int (nomark _))
      (pss_cons (ps_set (i := 3) nd rfl (Or.inl rfl) (pe_op op_mod (pe_callTy call_int1 rfl gI boot_int (pa_cons (pe_ix ix_list (pv 0) pe_int (fun _ _ => rfl)) pa_nil)) (pv 1)))
      (pss_cons (ps_asg (pe_op op_fdiv (pe_ix ix_list (pv 0) pe_int (fun _ _ => rfl)) (pv 1)) (pg_sub (pv 0) pe_int set_list))
      (pss_one (ps_ret (pv 3)))))
      pss_nil)
    (pss_cons (ps_set (i := 4) nd rfl (Or.inl rfl) (pe_op op_mod (pe_callTy call_int1 rfl gI boot_int (pa_cons (pe_op op_pow (pe_op op_add (pe_op op_add (pe_ix ix_list (pv 0) pe_int (fun _ _ => rfl)) (pe_op op_mul pe_int (pe_ix ix_list (pv 0) pe_int (fun _ _ => rfl)))) pe_int) pe_int) pa_nil)) pe_int))
    (pss_one (ps_ret (pe_op op_mod (pe_op op_mod (pe_callTy call_int1 rfl gI boot_int (pa_cons (pe_op op_pow (pe_op op_add (pe_op op_add (pe_op op_mul (pv 4) pe_int) (pe_op op_mul pe_int (pe_ix ix_list (pv 0) pe_int (fun _ _ => rfl)))) pe_int) pe_int) pa_nil)) pe_int) (pv 1))))), fun H1 c cs g k m S hB => ?_⟩
    refine ⟨_, rfl, _, _, _, _, rfl, rfl, SqL.of S.o, at1, _, _, rfl, rfl, _, rfl, ite2 (fun e => ?_) (fun e => ?_)⟩
    · refine ⟨_, rfl, _, _, _, _, rfl, rfl, SqL.of S.o, at1, .inl ⟨_, rfl, ?_⟩⟩
      refine ⟨_, rfl, _, _, rfl, rfl, h0, ?_⟩
      refine ⟨_, rfl, _, _, _, _, rfl, rfl, SqL.of S.o, at1, _, rfl, _, _, rfl, rfl, ⟨h0, by omega⟩, ?_⟩
      refine ⟨_, rfl, _, _, _, _, rfl, rfl, S.o, rfl, ?_⟩
      refine ⟨_, rfl, ?_⟩
      refine hq _ _ (Int.emod_nonneg _ (by omega)) (Int.emod_lt_of_pos _ h0) ⟨cs, g / many, k, m, ⟨upd_same, ?_, S.ne, Int.ediv_nonneg S.g0 (by omega), S.k0, S.k1, S.m0, S.m1, S.sz⟩⟩ (hB.trans (But.upd (.inl rfl)))
      rw [upd_ne S.ne]; exact S.c
    · have hk := S.k1
      have hk0 := S.k0
      have hm := S.m0
      have hm1 := S.m1
      refine ⟨_, rfl, _, _, _, _, rfl, rfl, SqL.of S.o, at3, _, rfl, _, _, _, _, rfl, rfl, SqL.of S.o, at2, _, _, rfl, rfl, .inl ⟨by decide, by decide⟩, _, _, rfl, rfl, _, _, rfl, rfl, _, _, rfl, rfl, ⟨by decide, by decide, ?_⟩, ?_⟩
      · omega
      refine .inl ⟨_, rfl, _, _, rfl, rfl, (by show (0 : Int) < 2147483629; decide), ?_⟩
      have e1 := Int.emod_nonneg ((m + 7919 * k + 104729) ^ Int.toNat 5) (show (2147483629 : Int) ≠ 0 by decide)
      have e2 := Int.emod_lt_of_pos ((m + 7919 * k + 104729) ^ Int.toNat 5) (show (0 : Int) < 2147483629 by decide)
      generalize (m + 7919 * k + 104729) ^ Int.toNat 5 % 2147483629 = z at e1 e2 ⊢
      refine ⟨_, rfl, _, _, rfl, rfl, .inr ⟨by decide, by decide⟩, _, rfl, _, _, _, _, rfl, rfl, SqL.of S.o, at2, _, _, rfl, rfl, .inl ⟨by decide, by decide⟩, _, _, rfl, rfl, _, _, rfl, rfl, _, _, rfl, rfl, ⟨by decide, by decide, ?_⟩, ?_⟩
      · omega
      refine .inl ⟨_, rfl, _, _, rfl, rfl, (by show (0 : Int) < 1000000007; decide), _, rfl, _, _, rfl, rfl, h0, ?_⟩
      exact hq _ _ (Int.emod_nonneg _ (by omega)) (Int.emod_lt_of_pos _ h0) ⟨cs, g, k, m, S⟩ hB
  refine ⟨_, pss_cons (ps_asg (pe_op op_add (pe_ix ix_list (pv 0) pe_int (fun _ _ => rfl)) pe_int) (pg_sub (pv 0) pe_int set_list))
    (pss_cons (ps_if (PW.pt (pw_and (pt_cmpR op_eq (pe_ix ix_list (pv 0) pe_int (fun _ _ => rfl)) pe_int (nomark _))
        (pw_and1 (pt_cmpR (op_neD hu64) (pe_ix ix_list (pv 0) pe_int (fun _ _ => rfl)) (pe_lst pa_nil) (nomark _)))))
      (pss_cons (ps_set (i := 2) nd rfl (Or.inl rfl) (pe_bm PySem.F.plainAttrs_list PySem.F.slot_list_pop PySem.F.type_list_pop mt_popAt (pe_ix ix_list (pv 0) pe_int (fun _ _ => rfl)) (pa_cons pe_int pa_nil)))
      (pss_cons (ps_asg (pe_op op_mod (pe_callTy call_int1 rfl gI boot_int (pa_cons (pe_op op_add (pe_op op_add (pe_op op_mul (pe_ix ix_list (pv 0) pe_int (fun _ _ => rfl)) pe_int) (pv 2)) pe_int) pa_nil)) pe_int) (pg_sub (pv 0) pe_int set_list))
      (pss_one (ps_asg (pe_ifExp (pt_cmpR op_ge (pv 2) (pe_op op_pow pe_int pe_int) (nomark _)) (pv 2) pe_int) (pg_sub (pv 0) pe_int set_list)))))
      pss_nil) ptl), ?_⟩
  refine ⟨_, rfl, _, _, _, _, rfl, rfl, SqL.of S.o, at2, _, _, rfl, rfl, _, rfl, _, _, _, _, rfl, rfl, S.o, rfl, ?_⟩
  have S1 : StrmAt (upd H l (.lst [.ref ls, .int g, .int (k + 1), .int m])) l ls cs g (k + 1) m (N + 1) :=
    ⟨upd_same, by rw [upd_ne S.ne]; exact S.c, S.ne, S.g0, by have := S.k0; omega, by have := S.k1; omega, S.m0, S.m1, S.sz⟩
  have B1 : But l ls H (upd H l (.lst [.ref ls, .int g, .int (k + 1), .int m])) := But.upd (.inl rfl)
  refine ⟨_, rfl, _, _, _, _, rfl, rfl, SqL.of S1.o, at1, rfl, _, rfl, ite2 (fun e => ?_) (fun e => ?_)⟩
  · refine ⟨_, rfl, _, _, _, _, rfl, rfl, SqL.of S1.o, at0, Nat.zero_le _, fun q nq => ?_⟩
    have ql : q ≠ l := by
      intro z; rw [z, upd_same] at nq; cases nq
    have qs : q ≠ ls := by
      intro z; rw [z, upd_ne S.ne] at nq; rw [S.c] at nq; cases nq
    have S2 : StrmAt (upd (upd H l (.lst [.ref ls, .int g, .int (k + 1), .int m])) q (.lst [])) l ls cs g (k + 1) m (N + 1) :=
      ⟨by rw [upd_ne (Ne.symm ql)]; exact S1.o, by rw [upd_ne (Ne.symm qs)]; exact S1.c, S.ne, S1.g0, S1.k0, S1.k1, S1.m0, S1.m1, S1.sz⟩
    have B2 : But l ls H (upd (upd H l (.lst [.ref ls, .int g, .int (k + 1), .int m])) q (.lst [])) := B1.trans (But.of fun b o eb => by
      rw [upd_ne (ne_of_none eb nq)]; exact eb)
    refine ⟨.list (cs.map .int), .list [], .lst (SqL.of S2.c) (dp_ints cs), .lst (SqL.of upd_same) .nil, PySem.W.shaped_ints cs, by decide, ?_⟩
    cases cs with
    | nil =>
      refine ⟨_, rfl, iteF ?_⟩
      exact htl _ none [] g (k + 1) m S2 B2
    | cons c cs =>
      refine ⟨_, rfl, iteT ?_⟩
      refine ⟨_, rfl, _, _, _, _, rfl, rfl, SqL.of S2.o, at0, .inl ⟨rfl, _, SqL.of S2.c⟩, ?_⟩
      have ix0 : ixN ((c :: cs).map V.int).length 0 = some 0 := by
        simp [ixN]
      refine ⟨ls, _, 0, 0, .int c, rfl, rfl, S2.c, by decide, by decide, (ixN_seq ix0).1, rfl, ?_⟩
      have S3 : StrmAt (upd (upd (upd H l (.lst [.ref ls, .int g, .int (k + 1), .int m])) q (.lst [])) ls (.lst (cs.map V.int))) l ls cs g (k + 1) m (N + 1) :=
        ⟨by rw [upd_ne (Ne.symm S.ne)]; exact S2.o, upd_same, S.ne, S2.g0, S2.k0, S2.k1, S2.m0, S2.m1, by have := S2.sz; simp only [List.length_cons] at this; omega⟩
      have B3 := B2.trans (But.upd (l := l) (ls := ls) (a := ls) (H := upd (upd H l (.lst [.ref ls, .int g, .int (k + 1), .int m])) q (.lst [])) (o := .lst (cs.map V.int)) (.inr rfl))
      have hm0 := S.m0
      have hm1 := S.m1
      refine ⟨_, rfl, _, _, _, _, rfl, rfl, SqL.of S3.o, at3, _, _, rfl, rfl, .inl ⟨by omega, by omega⟩, _, rfl, _, _, rfl, rfl, _, _, rfl, rfl, .inl ⟨_, rfl, _, _, rfl, rfl, (by show (0 : Int) < 2147483647; decide), ?_⟩⟩
      refine ⟨_, rfl, _, _, _, _, rfl, rfl, S3.o, rfl, ?_⟩
      have S4 : StrmAt (upd (upd (upd (upd H l (.lst [.ref ls, .int g, .int (k + 1), .int m])) q (.lst [])) ls (.lst (cs.map V.int))) l (.lst [.ref ls, .int g, .int (k + 1), .int ((m * 8191 + c + 3) % 2147483647)])) l ls cs g (k + 1) ((m * 8191 + c + 3) % 2147483647) (N + 1) :=
        ⟨upd_same, by rw [upd_ne S.ne]; exact S3.c, S.ne, S3.g0, S3.k0, S3.k1, Int.emod_nonneg _ (by decide), Int.emod_lt_of_pos _ (by decide), S3.sz⟩
      have B4 := B3.trans (But.upd (l := l) (ls := ls) (a := l) (o := .lst [.ref ls, .int g, .int (k + 1), .int ((m * 8191 + c + 3) % 2147483647)]) (.inl rfl))
      refine ⟨_, rfl, _, _, rfl, rfl, ⟨by decide, by decide, by decide⟩, _, _, rfl, rfl, _, rfl, ite2 (fun e4 => ?_) (fun e4 => ?_)⟩
      · refine ⟨_, rfl, _, rfl, _, _, _, _, rfl, rfl, S4.o, rfl, ?_⟩
        have hc : (0 : Int) ≤ c := by
          have z := of_decide_eq_true e4
          have z2 : (0 : Int) ≤ 10 ^ (Int.toNat 18) := Int.pow_nonneg (by decide)
          omega
        exact htl _ (some (.int c)) cs c (k + 1) ((m * 8191 + c + 3) % 2147483647)
          ⟨upd_same, by rw [upd_ne S.ne]; exact S4.c, S.ne, hc, S4.k0, S4.k1, S4.m0, S4.m1, S4.sz⟩ (B4.trans (But.upd (.inl rfl)))
      · refine ⟨_, rfl, _, _, _, _, rfl, rfl, S4.o, rfl, ?_⟩
        exact htl _ (some (.int c)) cs 0 (k + 1) ((m * 8191 + c + 3) % 2147483647)
          ⟨upd_same, by rw [upd_ne S.ne]; exact S4.c, S.ne, by decide, S4.k0, S4.k1, S4.m0, S4.m1, S4.sz⟩ (B4.trans (But.upd (.inl rfl)))
  · refine iteF ?_
    exact htl _ none cs g (k + 1) m S1 B1
def spStart (K : PySem.W.Frag) : Sp := fun vs H Q _ => ∃ (a : Addr) (ns : List Int), vs = [.ref a] ∧ SqL K H a (ns.map V.int) ∧ ns.length ≤ 100 ∧
  ∀ H' l ls, H l = none → Same H H' → Strm H' l ls 0 → H ls = none → Q (.ref l) H'
theorem scStart : FnScope ["script"] ["script"] (defScope sStart) := ⟨rfl, rfl, rfl, by decide +kernel, rfl, by decide +kernel, by decide +kernel⟩
theorem ok_start (F : Fun K "_law_start" "_law_start" sStart f fd) (gL : mg "list" = none) : FnOk P w K mg base CX0 1 f fd ["script"] (spStart K) := by
  refine F.ok scStart (fun vs H Q E h => by obtain ⟨a, ns, e, _⟩ := h; rw [e]; rfl) fun cdv A outer s H vs Q E hr hsp => ?_
  obtain ⟨a, ns, rfl, hS, hn, hq⟩ := hsp
  refine ⟨_, pss_one (ps_ret (pe_lst (pa_cons (pe_callTy call_list_of rfl gL (by decide +kernel) (pa_cons (pv 0) pa_nil)) (pa_cons pe_int (pa_cons pe_int (pa_cons pe_int pa_nil)))))), ?_⟩
  refine ⟨_, rfl, _, _, rfl, .inl hS, fun ls hls => ⟨by rw [sizeLine_eq]; show 4 ≤ _; omega, fun l hl => ?_⟩⟩
  have ne : ls ≠ l := by
    intro z; rw [← z, upd_same] at hl; cases hl
  have hl2 : H l = none := by rw [upd_ne (Ne.symm ne)] at hl; exact hl
  exact hq _ l ls hl2 (fun b o e => by rw [upd_ne (ne_of_none e hl2), upd_ne (ne_of_none e hls)]; exact e)
    ⟨ns, 0, 0, 11, ⟨upd_same, by rw [upd_ne ne, upd_same], ne, by decide, by decide, by decide, by decide, by decide, hn⟩⟩ hls
def spPick (K : PySem.W.Frag) : Sp := fun vs H Q _ => ∃ (l ls c : Addr) (xs : List V) (N : Int), vs = [.ref l, .ref c] ∧ Strm H l ls N ∧ N ≤ 1000000 ∧
  c ≠ l ∧ c ≠ ls ∧ H c = some (.lst xs) ∧ 0 < xs.length ∧ xs.length < 1000 ∧
  ∀ H' x, x ∈ xs → Strm H' l ls (N + 1) → But l ls H H' → Q x H'
theorem scPick : FnScope ["stream", "some"] ["stream", "some"] (defScope sPick) := ⟨rfl, rfl, rfl, by decide +kernel, rfl, by decide +kernel, by decide +kernel⟩
theorem ok_pick {fD : Addr} {fdD : FuncData} (F : Fun K "_law_pick" "_law_pick" sPick f fd) (FD : Fun K "_law_draw" "_law_draw" sDraw fD fdD)
    (gD : mg "_law_draw" = some (.ref fD)) (gI : mg "int" = none) (gN : mg "len" = none) : FnOk P w K mg base CX0 2 f fd ["stream", "some"] (spPick K) := by
  have G : FnOk P w K mg base CX0 1 fD fdD ["stream", "many"] spDraw := ok_draw FD gI
  have b := FD.binds (ps := ["stream", "many"]) fun _ _ _ _ _ _ us hl => match us, hl with | [_, _], _ => rfl
  refine F.ok scPick (fun vs H Q E h => by obtain ⟨l, ls, c, xs, N, e, _⟩ := h; rw [e]; rfl) fun cdv A outer s H vs Q E hr hsp => ?_
  obtain ⟨l, ls, c, xs, N, rfl, hS, hN, n1, n2, hc, h0, h1, hq⟩ := hsp
  refine ⟨_, pss_one (ps_ret (pe_ix ix_list (pv 1) (pe_call G hr rfl gD FD.kp b .nil pass0 (pa_cons (pv 0) (pa_cons (pe_callB call_len rfl gN boot_len (pa_cons (pv 1) pa_nil)) pa_nil))) (fun _ _ => rfl))), ?_⟩
  refine ⟨_, rfl, _, rfl, _, rfl, _, xs.length, rfl, .inl ⟨_, SqL.of hc, rfl⟩, ?_⟩
  refine ⟨l, ls, _, N, rfl, hS, hN, by omega, by omega, fun H' r r0 r1 S' B' => ?_⟩
  have hr2 : r.toNat < xs.length := by omega
  refine ⟨_, _, _, xs[r.toNat], rfl, rfl, SqL.of (B' c _ n1 n2 hc), ?_, hq H' _ (List.getElem_mem _) S' B'⟩
  have e : ((r.toNat : Nat) : Int) = r := by omega
  have z := atI_nat (xs := xs) (j := r.toNat) (v := xs[r.toNat]) (by simp)
  rw [e] at z
  exact z
end
end L2.TB
namespace L2.TB
open PySem PySem.Spec PyProof.Rows
theorem same_new {H : Hp} {p : Addr} {o : HO} (n : H p = none) : Same H (upd H p o) := fun c u z => by rw [upd_ne (ne_of_none z n)]; exact z
theorem Strm.same {H H' : Hp} {l ls : Addr} {N : Int} (h : Strm H l ls N) (s : Same H H') : Strm H' l ls N := by
  obtain ⟨cs, g, k, m, S⟩ := h
  exact ⟨cs, g, k, m, s _ _ S.o, s _ _ S.c, S.ne, S.g0, S.k0, S.k1, S.m0, S.m1, S.sz⟩
theorem Strm.some {H : Hp} {l ls : Addr} {N : Int} (h : Strm H l ls N) : (∃ o, H l = some o) ∧ ∃ o, H ls = some o := by
  obtain ⟨cs, g, k, m, S⟩ := h
  exact ⟨⟨_, S.o⟩, ⟨_, S.c⟩⟩
/-- what was not there is not the spring -/
theorem Strm.apart {H H' : Hp} {l ls p : Addr} {N : Int} (h : Strm H l ls N) (s : Same H H') (n : H' p = none) : p ≠ l ∧ p ≠ ls := by
  obtain ⟨⟨o, e⟩, ⟨o', e'⟩⟩ := h.some
  exact ⟨(fun z => by rw [z, s _ _ e] at n; cases n), (fun z => by rw [z, s _ _ e'] at n; cases n)⟩
def spPickS : Sp := fun vs H Q _ => ∃ (l ls : Addr) (x : Str) (N : Int), vs = [.ref l, .str x] ∧ Strm H l ls N ∧ N ≤ 1000000 ∧ 0 < x.cps.size ∧ x.cps.size < 1000 ∧
  ∀ H' c, c ∈ x.cps.toList → Strm H' l ls (N + 1) → But l ls H H' → Q (.str ⟨#[c]⟩) H'
/-- a mixed list: what was in it, in some order -/
def spMixed (K : PySem.W.Frag) : Sp := fun vs H Q _ => ∃ (l ls c : Addr) (xs : List V) (N : Int), vs = [.ref l, .ref c] ∧ Strm H l ls N ∧ N ≤ 900000 ∧ SqL K H c xs ∧ xs.length < 1000 ∧
  ∀ H' q ys, ys.Perm xs → H q = none → H' q = some (.lst ys) → Strm H' l ls (N + xs.length) → But l ls H H' → Q (.ref q) H'
theorem scMixed : FnScope ["stream", "some", "left", "k"] ["stream", "some"] (defScope sMixed) := ⟨rfl, rfl, rfl, by decide +kernel, rfl, by decide +kernel, by decide +kernel⟩
theorem pop_perm : ∀ (l : List V) (k : Nat) (y : V), l[k]? = some y → (y :: l.eraseIdx k).Perm l
  | [], k, y, h => by simp at h
  | a :: l, 0, y, h => by
    obtain rfl : a = y := by simpa using h
    exact List.Perm.refl _
  | a :: l, k + 1, y, h => by
    have z := pop_perm l k y (by simpa using h)
    exact (List.Perm.swap a y _).trans (z.cons a)
section
variable {P : Program} {w : World} {K : PySem.W.Frag} {mg : Str → Option Value} {base : Heap} {f fD fP fM : Addr} {fd fdD fdP fdM : FuncData}
theorem ok_pickS (F : Fun K "_law_pick" "_law_pick" sPick f fd) (FD : Fun K "_law_draw" "_law_draw" sDraw fD fdD)
    (gD : mg "_law_draw" = some (.ref fD)) (gI : mg "int" = none) (gN : mg "len" = none) : FnOk P w K mg base CX0 2 f fd ["stream", "some"] spPickS := by
  have G : FnOk P w K mg base CX0 1 fD fdD ["stream", "many"] spDraw := ok_draw FD gI
  have b := FD.binds (ps := ["stream", "many"]) fun _ _ _ _ _ _ us hl => match us, hl with | [_, _], _ => rfl
  refine F.ok scPick (fun vs H Q E h => by obtain ⟨l, ls, x, N, e, _⟩ := h; rw [e]; rfl) fun cdv A outer s H vs Q E hr hsp => ?_
  obtain ⟨l, ls, x, N, rfl, hS, hN, h0, h1, hq⟩ := hsp
  refine ⟨_, pss_one (ps_ret (pe_ix ix_str (pv 1) (pe_call G hr rfl gD FD.kp b .nil pass0 (pa_cons (pv 0) (pa_cons (pe_callB call_len rfl gN boot_len (pa_cons (pv 1) pa_nil)) pa_nil))) (fun _ _ => rfl))), ?_⟩
  have hz : x.length ≤ sizeLine := by rw [sizeLine_eq]; show x.cps.size ≤ _; omega
  have hl : ((x.length : Nat) : Int) = (x.cps.size : Int) := rfl
  refine ⟨_, rfl, _, rfl, _, rfl, _, x.length, rfl, ⟨hz, rfl⟩, ?_⟩
  refine ⟨l, ls, _, N, rfl, hS, hN, by omega, by omega, fun H' r r0 r1 S' B' => ?_⟩
  have hr2 : r.toNat < x.cps.toList.length := by rw [Array.length_toList]; omega
  refine ⟨x, r, x.cps.toList[r.toNat], rfl, rfl, hz, ?_, hq H' _ (List.getElem_mem _) S' B'⟩
  have e : ((r.toNat : Nat) : Int) = r := by omega
  have z := atI_nat (xs := x.cps.toList) (j := r.toNat) (v := x.cps.toList[r.toNat]) (by simp)
  rw [e] at z
  exact z
theorem ok_mixed (F : Fun K "_law_mixed" "_law_mixed" sMixed f fd) (FD : Fun K "_law_draw" "_law_draw" sDraw fD fdD)
    (gD : mg "_law_draw" = some (.ref fD)) (gI : mg "int" = none) (gN : mg "len" = none) (gL : mg "list" = none) (gR : mg "range" = none) : FnOk P w K mg base CX0 2 f fd ["stream", "some"] (spMixed K) := by
  have G : FnOk P w K mg base CX0 1 fD fdD ["stream", "many"] spDraw := ok_draw FD gI
  have b := FD.binds (ps := ["stream", "many"]) fun _ _ _ _ _ _ us hl => match us, hl with | [_, _], _ => rfl
  refine F.ok scMixed (fun vs H Q E h => by obtain ⟨l, ls, c, xs, N, e, _⟩ := h; rw [e]; rfl) fun cdv A outer s H vs Q E hr hsp => ?_
  obtain ⟨l, ls, c, xs, N, rfl, hS, hN, hc, h1, hq⟩ := hsp
  have nd := scMixed.nd
  refine ⟨_, pss_cons (ps_set (i := 2) nd rfl (Or.inr rfl) (pe_callTy call_list_of rfl gL (by decide +kernel) (pa_cons (pv 1) pa_nil)))
    (pss_one (ps_ret (pe_lc (own := [("k", 3)]) (tt := tYes) (te := tBM K "list" rPopAt (tVar 2) (tCons (tCall spDraw [] E0 (tCons (tVar 0) (tCons (tCB (rLen K) (tCons (tVar 2) tNil)) tNil))) tNil)) rfl nd (pi_range1 rfl gR (pa_cons (pe_callB call_len rfl gN boot_len (pa_cons (pv 2) pa_nil)) pa_nil)) (blkOk_by (N := ["stream", "some", "left", "k"]) (sc := defScope sMixed) (by decide +kernel))
      (fun _ _ _ _ _ => pg_name (i := 3) nd rfl (Or.inl rfl)) (fun _ _ _ _ _ => pts_nil)
      (fun _ _ _ _ _ => pe_bm PySem.F.plainAttrs_list PySem.F.slot_list_pop PySem.F.type_list_pop mt_popAt (pv 2) (pa_cons (pe_call G hr rfl gD FD.kp b .nil pass0 (pa_cons (pv 0) (pa_cons (pe_callB call_len rfl gN boot_len (pa_cons (pv 2) pa_nil)) pa_nil))) pa_nil))))), ?_⟩
  refine ⟨_, rfl, c, xs, rfl, .inl hc, fun p np => ?_⟩
  have kp := same_new (o := .lst xs) np
  have ap := hS.apart (Same.refl _) np
  refine ⟨_, rfl, .ref p, xs.length, rfl, .inl ⟨_, SqL.of upd_same, rfl⟩, _, rfl, by omega, by omega, fun q nq => ?_⟩
  have aq := hS.apart kp nq
  have pq : p ≠ q := fun z => by rw [← z, upd_same] at nq; cases nq
  have nq0 : H q = none := Same.free kp nq
  refine lc_range (n := xs.length) (fun i H' => ∃ done rest, H' q = some (.lst done) ∧ H' p = some (.lst rest) ∧ done.length = i ∧ (done ++ rest).Perm xs ∧ Strm H' l ls (N + i) ∧ But l ls H H')
    ⟨[], xs, upd_same, by rw [upd_ne pq]; exact upd_same, rfl, List.Perm.refl _, by simpa using ((hS.same kp).same (same_new nq)), But.of (kp.trans (same_new nq))⟩ ?_ ?_
  · rintro i H3 hi ⟨done, rest, oq, op, ln, pm, S3, B3⟩
    have hlen : done.length + rest.length = xs.length := by rw [← pm.length_eq, List.length_append]
    refine ⟨rfl, ?_⟩
    refine ⟨_, rfl, .inl ⟨rfl, _, SqL.of op⟩, _, rfl, _, rfl, .ref p, rest.length, rfl, .inl ⟨_, SqL.of op, rfl⟩, ?_⟩
    refine ⟨l, ls, _, _, rfl, S3, by omega, by omega, by omega, fun H4 r r0 r1 S4 B4 => ?_⟩
    have hr2 : r.toNat < rest.length := by omega
    have er : ((r.toNat : Nat) : Int) = r := by omega
    have ix0 : ixN rest.length r = some r.toNat := by
      unfold ixN
      rw [if_pos r0, if_pos r1]
    refine ⟨p, rest, r, r.toNat, rest[r.toNat], rfl, rfl, B4 _ _ ap.1 ap.2 op, by omega, by omega, (ixN_seq ix0).1, by simp, done, ?_, (by rw [sizeLine_eq]; omega), done ++ [rest[r.toNat]], rest.eraseIdx r.toNat, upd_same, ?_, by simp [ln], ?_, ?_, ?_⟩
    · rw [upd_ne (Ne.symm pq)]; exact B4 _ _ aq.1 aq.2 oq
    · rw [upd_ne pq, upd_same]
    · have z := pop_perm rest r.toNat rest[r.toNat] (by simp)
      rw [List.append_assoc]
      exact (List.Perm.append_left done z).trans pm
    · obtain ⟨cs, g, k, m, S⟩ := S4
      have e1 : N + ((i + 1 : Nat) : Int) = N + (i : Int) + 1 := by omega
      rw [e1]
      exact ⟨cs, g, k, m, by rw [upd_ne (Ne.symm aq.1), upd_ne (Ne.symm ap.1)]; exact S.o, by rw [upd_ne (Ne.symm aq.2), upd_ne (Ne.symm ap.2)]; exact S.c, S.ne, S.g0, S.k0, S.k1, S.m0, S.m1, S.sz⟩
    · intro b o h1 h2 e
      have nb : b ≠ q := ne_of_none e nq0
      have nb2 : b ≠ p := ne_of_none e np
      rw [upd_ne nb, upd_ne nb2]
      exact B4 _ _ h1 h2 (B3 _ _ h1 h2 e)
  · rintro H3 ⟨done, rest, oq, op, ln, pm, S3, B3⟩
    have hlen : done.length + rest.length = xs.length := by rw [← pm.length_eq, List.length_append]
    have er : rest = [] := List.eq_nil_of_length_eq_zero (by omega)
    subst er
    rw [List.append_nil] at pm
    exact hq H3 q done pm nq0 oq S3 B3
end
end L2.TB
namespace L2.TB
open PySem PySem.Spec PyProof.Rows
theorem Strm.mono {H : Hp} {l ls : Addr} {N M : Int} (h : Strm H l ls N) (le : N ≤ M) : Strm H l ls M := by
  obtain ⟨cs, g, k, m, S⟩ := h
  exact ⟨cs, g, k, m, S.o, S.c, S.ne, S.g0, S.k0, by have := S.k1; omega, S.m0, S.m1, S.sz⟩
/-- some of a mixed list -/
def spSome (K : PySem.W.Frag) : Sp := fun vs H Q _ => ∃ (l ls c : Addr) (xs : List V) (N : Int), vs = [.ref l, .ref c] ∧ Strm H l ls N ∧ N ≤ 800000 ∧ H c = some (.lst xs) ∧ c ≠ l ∧ c ≠ ls ∧ xs.length < 100 ∧
  ∀ H' q ys zs, (ys ++ zs).Perm xs → H q = none → H' q = some (.lst ys) → Strm H' l ls (N + 200) → But l ls H H' → Q (.ref q) H'
theorem scSome : FnScope ["stream", "names"] ["stream", "names"] (defScope sSome) := ⟨rfl, rfl, rfl, by decide +kernel, rfl, by decide +kernel, by decide +kernel⟩
theorem cut_to (xs : List V) (r : Int) (h0 : 0 ≤ r) (h1 : r < xs.length + 1) : cutV xs none (some r) = xs.take r.toNat := by
  have e1 : HT.sIx xs.length 0 none = 0 := rfl
  have e2 : HT.sIx xs.length xs.length (some r) = r.toNat := by
    unfold HT.sIx
    simp only []
    rw [if_neg (show ¬ r < 0 by omega)]
    omega
  unfold cutV
  rw [e1, e2]; simp
section
variable {P : Program} {w : World} {K : PySem.W.Frag} {mg : Str → Option Value} {base : Heap} {f fD fP fM : Addr} {fd fdD fdP fdM : FuncData}
theorem ok_some (F : Fun K "_law_t_some" "_law_t_some" sSome f fd) (FM : Fun K "_law_mixed" "_law_mixed" sMixed fM fdM) (gM : mg "_law_mixed" = some (.ref fM)) (FD : Fun K "_law_draw" "_law_draw" sDraw fD fdD)
    (gD : mg "_law_draw" = some (.ref fD)) (gI : mg "int" = none) (gN : mg "len" = none) (gL : mg "list" = none) (gR : mg "range" = none) : FnOk P w K mg base CX0 3 f fd ["stream", "names"] (spSome K) := by
  have G : FnOk P w K mg base CX0 1 fD fdD ["stream", "many"] spDraw := ok_draw FD gI
  have b := FD.binds (ps := ["stream", "many"]) fun _ _ _ _ _ _ us hl => match us, hl with | [_, _], _ => rfl
  have GM : FnOk P w K mg base CX0 2 fM fdM ["stream", "some"] (spMixed K) := ok_mixed FM FD gD gI gN gL gR
  have bM := FM.binds (ps := ["stream", "some"]) fun _ _ _ _ _ _ us hl => match us, hl with | [_, _], _ => rfl
  refine F.ok scSome (fun vs H Q E h => by obtain ⟨l, ls, c, xs, N, e, _⟩ := h; rw [e]; rfl) fun cdv A outer s H vs Q E hr hsp => ?_
  obtain ⟨l, ls, c, xs, N, rfl, hS, hN, hc, cl, cls, h1, hq⟩ := hsp
  refine ⟨_, pss_one (ps_ret (pe_slice sl_list (pe_call GM hr rfl gM FM.kp bM .nil pass0 (pa_cons (pv 0) (pa_cons (pv 1) pa_nil))) po_none (po_some (pe_call G (hr.mono (by decide)) rfl gD FD.kp b .nil pass0 (pa_cons (pv 0) (pa_cons (pe_op op_add (pe_callB call_len rfl gN boot_len (pa_cons (pv 1) pa_nil)) pe_int) pa_nil)))))), ?_⟩
  refine ⟨_, rfl, _, rfl, l, ls, c, xs, N, rfl, hS, by omega, SqL.of hc, by omega, fun H1 q ys pm nq oq S1 B1 => ?_⟩
  have aq := hS.apart (Same.refl _) nq
  have hcl := B1 _ _ cl cls hc
  refine ⟨_, rfl, _, rfl, .ref c, xs.length, rfl, .inl ⟨_, SqL.of hcl, rfl⟩, _, _, rfl, rfl, ?_⟩
  refine ⟨l, ls, _, _, rfl, S1, by omega, by omega, by omega, fun H2 r r0 r1 S2 B2 => ?_⟩
  refine ⟨r, rfl, q, ys, rfl, SqL.of (B2 _ _ aq.1 aq.2 oq), fun p np => ?_⟩
  have ly : ys.length = xs.length := pm.length_eq
  rw [cut_to ys r r0 (by rw [ly]; exact r1)]
  refine hq _ p (ys.take r.toNat) (ys.drop r.toNat) (by rw [List.take_append_drop]; exact pm) ?_ upd_same ((S2.same (same_new np)).mono (by omega)) ((B1.trans B2).trans (But.of (same_new np)))
  have ap := S2.apart (Same.refl _) np
  cases e : H p with
  | none => rfl
  | some o => have z := (B1.trans B2) _ _ ap.1 ap.2 e; rw [z] at np; cases np
end
end L2.TB
namespace L2.TB
open PySem PySem.Spec PyProof.Rows
def signsL : List Nat := (Str.ofString "abcdefghijklmnopqrstuvwxyz0123456789.").cps.toList
/-- a name that is_name lets pass -/
def NmOk (x : Str) : Prop := 1 ≤ x.cps.toList.length ∧ x.cps.toList.length ≤ 40 ∧ ∀ c ∈ x.cps.toList, c ∈ signsL
def wordL : List Nat := (Str.ofString "abcxyz019").cps.toList
def letL : List Nat := (Str.ofString "abcdefghijklmnopqrstuvwxyz").cps.toList
/-- a name as the law draws it -/
def NmS (x : Str) : Prop := NmOk x ∧ x.cps.toList.length ≤ 3
theorem word_sub : ∀ c ∈ wordL, c ∈ signsL := by decide +kernel
theorem let_sub : ∀ c ∈ letL, c ∈ signsL := by decide +kernel
theorem join_flat : ∀ cs : List Nat, TL.joinL [] (cs.map fun c => [c]) = cs
  | [] => rfl
  | [c] => rfl
  | c :: d :: r => by
    show [c] ++ ([] ++ TL.joinL [] ((d :: r).map fun c => [c])) = _
    rw [join_flat (d :: r)]; rfl
theorem join_cps (cs : List Nat) : (Txt.join (Str.ofString "") (cs.map fun c => (⟨#[c]⟩ : Str))).cps.toList = cs := by
  rw [TL.join_eq]
  have e := TL.tl_join (Str.ofString "") (cs.map fun c => (⟨#[c]⟩ : Str))
  have e2 : (cs.map fun c => (⟨#[c]⟩ : Str)).map TL.tl = cs.map fun c => [c] := by rw [List.map_map]; rfl
  have e3 : TL.tl (Str.ofString "") = [] := by decide +kernel
  rw [e2, e3, join_flat] at e
  exact e
/-- the spare names: a letter and q -/
def spare (c : Nat) : Str := (⟨#[c]⟩ : Str) ++ Str.ofString "q"
theorem spare_ok : ∀ c ∈ letL, NmS (spare c) := by
  unfold NmS NmOk
  decide +kernel
theorem spare_nd : (letL.map spare).Nodup := by decide +kernel
theorem str_inj (a b : Str) : eqV (.str a) (.str b) = decide (a = b) := by
  show (a == b) = _
  by_cases h : a = b
  · subst h; simp
  · rw [decide_eq_false h]; simpa using h
theorem inV_strs (x : Str) : ∀ xs : List Str, inV (.str x) (xs.map V.str) = decide (x ∈ xs)
  | [] => by simp [inV]
  | a :: xs => by
    have e := inV_strs x xs
    unfold inV at e ⊢
    rw [List.map_cons, List.any_cons, e, str_inj]
    by_cases h : a = x
    · subst h; simp
    · by_cases h2 : x ∈ xs
      · simp [h2]
      · simp [h, h2, Ne.symm h]
theorem flat_strs (xs : List Str) : (xs.map V.str).all flatV = true := by
  rw [List.all_map]; exact List.all_eq_true.mpr fun _ _ => rfl
/-- some spare name is not among the found ones -/
theorem spare_left (w : Str) (found : List Str) (h : found.length < 26) : ((w :: letL.map spare).filter fun x => decide (x ∉ found)) ≠ [] := by
  intro e
  have sub : ∀ x ∈ letL.map spare, x ∈ found := fun x hx => by
    by_cases h2 : x ∈ found
    · exact h2
    · have z : x ∈ (w :: letL.map spare).filter fun x => decide (x ∉ found) := List.mem_filter.mpr ⟨List.mem_cons_of_mem _ hx, by simp [h2]⟩
      rw [e] at z; cases z
  have le := List.Nodup.length_le_of_subset spare_nd (fun x hx => sub x hx)
  have e26 : (letL.map spare).length = 26 := by decide +kernel
  omega
def spNames : Sp := fun vs H Q _ => ∃ (l ls : Addr) (many N : Int), vs = [.ref l, .int many] ∧ Strm H l ls N ∧ N ≤ 900000 ∧ 0 ≤ many ∧ many ≤ 20 ∧
  ∀ H' q (ns : List Str), (ns.length : Int) = many → ns.Nodup → (∀ x ∈ ns, NmS x) → H q = none → H' q = some (.lst (ns.map V.str)) → Strm H' l ls (N + 5 * many) → But l ls H H' → Q (.ref q) H'
abbrev NN : List Str := ["stream", "many", "found", "k", "word", "spares", "sign", "letter", "one"]
theorem scNames : FnScope NN ["stream", "many"] (defScope sNames) := ⟨rfl, rfl, rfl, by decide +kernel, rfl, by decide +kernel, by decide +kernel⟩
section
variable {P : Program} {w : World} {K : PySem.W.Frag} {mg : Str → Option Value} {base : Heap} {f fD fP fM : Addr} {fd fdD fdP fdM : FuncData}
theorem ok_names (F : Fun K "_law_t_names" "_law_t_names" sNames f fd) (FP : Fun K "_law_pick" "_law_pick" sPick fP fdP) (gP : mg "_law_pick" = some (.ref fP)) (FD : Fun K "_law_draw" "_law_draw" sDraw fD fdD)
    (gD : mg "_law_draw" = some (.ref fD)) (gI : mg "int" = none) (gN : mg "len" = none) (gR : mg "range" = none) : FnOk P w K mg base CX0 3 f fd ["stream", "many"] spNames := by
  have G : FnOk P w K mg base CX0 1 fD fdD ["stream", "many"] spDraw := ok_draw FD gI
  have b := FD.binds (ps := ["stream", "many"]) fun _ _ _ _ _ _ us hl => match us, hl with | [_, _], _ => rfl
  have GP : FnOk P w K mg base CX0 2 fP fdP ["stream", "some"] spPickS := ok_pickS FP FD gD gI gN
  have bP := FP.binds (ps := ["stream", "some"]) fun _ _ _ _ _ _ us hl => match us, hl with | [_, _], _ => rfl
  refine F.ok scNames (fun vs H Q E h => by obtain ⟨l, ls, many, N, e, _⟩ := h; rw [e]; rfl) fun cdv A outer s H vs Q E hr hsp => ?_
  obtain ⟨l, ls, many, N, rfl, hS, hN, h0, h1, hq⟩ := hsp
  have nd := scNames.nd
  refine ⟨_, pss_cons (ps_set (i := 2) nd rfl (Or.inr rfl) (pe_lst pa_nil))
    (pss_cons (ps_for PassesOwn.never rfl (pi_range1 rfl gR (pa_cons (pv 1) pa_nil)) (pg_name (i := 3) nd rfl (Or.inl rfl))
      (pss_cons (ps_set (i := 4) nd rfl (Or.inl rfl) (pe_join pe_str (pe_lc (own := [("sign", 6)]) (tt := tYes) rfl nd (pi_range1 rfl gR (pa_cons (pe_op op_add pe_int (pe_call G (hr.mono (by decide)) rfl gD FD.kp b .nil pass0 (pa_cons (pv 0) (pa_cons pe_int pa_nil)))) pa_nil))
          (blkOk_by (N := NN) (sc := defScope sNames) (by decide +kernel)) (fun _ _ _ _ _ => pg_name (i := 6) nd rfl (Or.inl rfl)) (fun _ _ _ _ _ => pts_nil) (fun _ _ _ _ _ => pe_call GP hr rfl gP FP.kp bP .nil pass0 (pa_cons (pv 0) (pa_cons pe_str pa_nil))))))
      (pss_cons (ps_set (i := 5) nd rfl (Or.inl rfl) (pe_op op_cat (pe_lst (pa_cons (pv 4) pa_nil)) (pe_lc (own := [("letter", 7)]) (tt := tYes) rfl nd (pi_str pe_str) (blkOk_by (N := NN) (sc := defScope sNames) (by decide +kernel))
          (fun _ _ _ _ _ => pg_name (i := 7) nd rfl (Or.inl rfl)) (fun _ _ _ _ _ => pts_nil) (fun _ _ _ _ _ => pe_op op_add_str (pv 7) pe_str))))
      (pss_one (ps_expr (pe_bm PySem.F.plainAttrs_list PySem.F.slot_list_append PySem.F.type_list_append mt_append (pv 2) (pa_cons (pe_ix ix_list (pe_lc (own := [("one", 8)]) (tt := tTest (tOp (rIn K true) (tVar 8) (tVar 2))) rfl nd (pi_list (pv 5)) (blkOk_by (N := NN) (sc := defScope sNames) (by decide +kernel))
          (fun _ _ _ _ _ => pg_name (i := 8) nd rfl (Or.inl rfl)) (fun _ _ _ _ _ => pts_one (pt_cmpR op_notIn_seq (pv 8) (pv 2) rfl)) (fun _ _ _ _ _ => pv 8)) pe_int (fun _ _ => rfl)) pa_nil)))))))
    (pss_one (ps_ret (pv 2)))), ?_⟩
  refine ⟨Nat.zero_le _, fun q nq => ?_⟩
  have aq := hS.apart (Same.refl _) nq
  refine ⟨_, rfl, many, rfl, by omega, by omega, for_range (n := many.toNat) (fun i σ H' => ∃ ns : List Str, H' q = some (.lst (ns.map V.str)) ∧ ns.length = i ∧ ns.Nodup ∧ (∀ x ∈ ns, NmS x) ∧ Strm H' l ls (N + 5 * i) ∧ But l ls H H' ∧
    ∃ s3 s4 s5 s6 s7 s8, σ = [some (.ref l), some (.int many), some (.ref q), s3, s4, s5, s6, s7, s8])
    ⟨[], upd_same, rfl, .nil, fun x hx => by simp at hx, by simpa using hS.same (same_new nq), But.of (same_new nq), _, _, _, _, _, _, rfl⟩ ?_ ?_⟩
  · rintro i σ H1 hi ⟨ns, oq, ln, nn, nok, S1, B1, s3, s4, s5, s6, s7, s8, rfl⟩
    have hi2 : (i : Int) < 20 := by omega
    -- the word
    refine ⟨⟨_, rfl⟩, _, rfl, l, ls, 3, _, rfl, S1, by omega, by decide, by decide, fun H2 r r0 r1 S2 B2 => ?_⟩
    refine ⟨_, _, rfl, rfl, 1 + r, rfl, by omega, by omega, fun D nD => ?_⟩
    have aD := S2.apart (Same.refl _) nD
    refine lc_range (n := (1 + r).toNat) (fun j H' => ∃ cs : List Nat, H' D = some (.lst (cs.map fun c => V.str ⟨#[c]⟩)) ∧ cs.length = j ∧ (∀ c ∈ cs, c ∈ wordL) ∧ Strm H' l ls (N + 5 * i + 1 + j) ∧ But l ls H2 H')
      ⟨[], upd_same, rfl, fun c hc => by simp at hc, by simpa using S2.same (same_new nD), But.of (same_new nD)⟩ ?_ ?_
    · rintro j H3 hj ⟨cs, oD, lc, cok, S3, B3⟩
      refine ⟨rfl, ?_⟩
      refine ⟨_, rfl, l, ls, _, _, rfl, S3, by omega, by decide +kernel, by decide +kernel, fun H4 c hc S4 B4 => ?_⟩
      have oD4 := B4 _ _ aD.1 aD.2 oD
      refine ⟨_, oD4, (by rw [sizeLine_eq, List.length_map]; omega), cs ++ [c], by rw [upd_same]; simp, by simp [lc], ?_, ?_, ?_⟩
      · intro d hd
        rcases List.mem_append.mp hd with h | h
        · exact cok d h
        · obtain rfl : d = c := by simpa using h
          exact hc
      · obtain ⟨cs', g, k, m, S⟩ := S4
        exact Strm.mono ⟨cs', g, k, m, by rw [upd_ne (Ne.symm aD.1)]; exact S.o, by rw [upd_ne (Ne.symm aD.2)]; exact S.c, S.ne, S.g0, S.k0, S.k1, S.m0, S.m1, S.sz⟩ (by omega)
      · intro b o h1 h2 e
        have nb : b ≠ D := ne_of_none e nD
        rw [upd_ne nb]
        exact B4 _ _ h1 h2 (B3 _ _ h1 h2 e)
    · rintro H3 ⟨cs, oD, lc, cok, S3, B3⟩
      have lc3 : 1 ≤ cs.length ∧ cs.length ≤ 3 := by omega
      have em : (cs.map fun c => V.str ⟨#[c]⟩) = (cs.map fun c => (⟨#[c]⟩ : Str)).map V.str := by rw [List.map_map]; rfl
      rw [em] at oD
      have sums : ∀ l : List Nat, ((l.map fun c => (⟨#[c]⟩ : Str)).map (·.length)).sum = l.length := fun l => by
        induction l with
        | nil => rfl
        | cons a l ih => rw [List.map_cons, List.map_cons, List.sum_cons, ih, List.length_cons]; show 1 + _ = _; omega
      refine ⟨_, D, _, rfl, rfl, .inl (SqL.of oD), ?_, ?_⟩
      · rw [sums, List.length_map]; show cs.length + cs.length * 0 ≤ _; omega
      have hw : (Txt.join (Str.ofString "") (cs.map fun c => (⟨#[c]⟩ : Str))).cps.toList = cs := join_cps cs
      generalize Txt.join (Str.ofString "") (cs.map fun c => (⟨#[c]⟩ : Str)) = wd at hw
      have wok : NmS wd := by
        unfold NmS NmOk
        rw [hw]
        exact ⟨⟨lc3.1, by omega, fun c hc => word_sub c (cok c hc)⟩, by omega⟩
      have B13 := B2.trans B3
      have oq3 := B13 _ _ aq.1 aq.2 oq
      -- the spare names
      refine ⟨_, rfl, (by rw [sizeLine_eq]; show 1 ≤ _; omega), fun a1 n1 => ?_⟩
      have k1 := same_new (o := .lst [.str wd]) n1
      have e26 : (Str.ofString "abcdefghijklmnopqrstuvwxyz").cps.size = 26 := by decide +kernel
      have l26 : letL.length = 26 := by decide +kernel
      refine ⟨_, rfl, fun D2 nD2 => ⟨fun j m H' => m = 26 - j ∧ j ≤ 26 ∧ H' D2 = some (.lst ((letL.take j).map fun c => V.str (spare c))) ∧ Same (upd H3 a1 (.lst [.str wd])) H',
        ⟨26, rfl, by decide, upd_same, same_new nD2⟩, ?_⟩⟩
      rintro j m H4 ⟨rfl, hj, oD2, sm4⟩
      by_cases lt : j < 26
      · refine .inr ⟨(by show j < _; rw [e26]; exact lt), fun H' => H' D2 = some (.lst ((letL.take (j + 1)).map fun c => V.str (spare c))) ∧ Same (upd H3 a1 (.lst [.str wd])) H', fun H' h => ⟨26 - (j + 1), by omega, rfl, lt, h⟩, ?_⟩
        rintro v H' ⟨rfl, c, hc, rfl⟩
        have hc2 : letL[j]? = some c := by
          unfold letL
          rw [Array.getElem?_toList]; exact hc
        refine ⟨rfl, ?_⟩
        refine ⟨_, rfl, _, _, rfl, rfl, (by rw [sizeLine_eq]; show 1 + 1 ≤ _; omega), _, oD2, (by rw [sizeLine_eq, List.length_map, List.length_take]; omega), ?_, fun b o e => by rw [upd_ne (ne_of_none e nD2)]; exact sm4 b o e⟩
        rw [upd_same, List.take_succ, hc2]
        simp [spare]
      · have j26 : j = 26 := by omega
        refine .inl ⟨(by show _ ≤ j; rw [e26]; omega), ?_⟩
        have et : letL.take j = letL := List.take_of_length_le (by omega)
        rw [et] at oD2
        refine ⟨a1, D2, _, _, rfl, rfl, sm4 _ _ upd_same, oD2, (by rw [sizeLine_eq, List.length_map, l26]; show 1 + 26 ≤ _; omega), fun p np => ?_⟩
        have esp : [V.str wd] ++ letL.map (fun c => V.str (spare c)) = (wd :: letL.map spare).map V.str := by simp [List.map_map]
        rw [esp]
        have spl : (wd :: letL.map spare).length = 27 := by rw [List.length_cons, List.length_map, l26]
        have spok : ∀ x ∈ (wd :: letL.map spare), NmS x := fun x hx => by
          rcases List.mem_cons.mp hx with h | h
          · rw [h]; exact wok
          · obtain ⟨c, hc, rfl⟩ := List.mem_map.mp h
            exact spare_ok c hc
        have hne := spare_left wd ns (by omega)
        generalize wd :: letL.map spare = sp at spl spok hne
        have k5 := same_new (o := .lst (sp.map V.str)) np
        have k35 := (k1.trans sm4).trans k5
        refine ⟨_, rfl, .inl ⟨rfl, _, SqL.of (k35 _ _ oq3)⟩, _, rfl, p, rfl, ⟨_, SqL.of upd_same⟩, fun D3 nD3 => ?_⟩
        refine lc_list (xs := sp.map V.str) (fun j H' => H' D3 = some (.lst (((sp.take j).filter fun x => decide (x ∉ ns)).map V.str)) ∧ Same (upd H4 p (.lst (sp.map V.str))) H')
          ⟨by rw [upd_same]; rfl, same_new nD3⟩ (fun j H' _ h => SqL.of (h.2 _ _ upd_same)) ?_ ?_
        · rintro j v H6 ev ⟨oD3, sm6⟩
          rw [List.getElem?_map] at ev
          obtain ⟨x, ex, rfl⟩ := Option.map_eq_some_iff.mp ev
          have et2 : sp.take (j + 1) = sp.take j ++ [x] := by rw [List.take_succ, ex]; rfl
          refine ⟨rfl, ?_⟩
          refine ⟨_, rfl, _, rfl, q, ns.map V.str, rfl, .inl (SqL.of (sm6 _ _ (k35 _ _ oq3))), rfl, flat_strs ns, _, rfl, ?_⟩
          rw [inV_strs]
          by_cases hx : x ∈ ns
          · rw [decide_eq_true hx]
            refine iteF ?_
            refine ⟨?_, sm6⟩
            rw [et2, List.filter_append]
            simpa [hx] using oD3
          · rw [decide_eq_false hx]
            refine iteT ?_
            refine ⟨_, rfl, _, oD3, ?_, ?_, fun b o e => by rw [upd_ne (ne_of_none e nD3)]; exact sm6 b o e⟩
            · have z := List.length_filter_le (fun x => decide (x ∉ ns)) (sp.take j)
              rw [List.length_take] at z
              rw [sizeLine_eq, List.length_map]; omega
            · rw [upd_same, et2, List.filter_append]
              simp [hx]
        · rintro H6 ⟨oD3, sm6⟩
          have ef : sp.take (sp.map V.str).length = sp := List.take_of_length_le (by rw [List.length_map]; omega)
          rw [ef] at oD3
          have oq6 := sm6 _ _ (k35 _ _ oq3)
          cases efl : sp.filter fun x => decide (x ∉ ns) with
          | nil => exact absurd efl hne
          | cons y rest =>
            rw [efl] at oD3
            have hy : y ∈ sp.filter fun x => decide (x ∉ ns) := by rw [efl]; exact List.mem_cons_self
            obtain ⟨hy1, hy2⟩ := List.mem_filter.mp hy
            have hy3 : y ∉ ns := by simpa using hy2
            refine ⟨D3, _, 0, .str y, rfl, rfl, SqL.of oD3, atI_nat (j := 0) (by simp), ?_⟩
            refine ⟨q, ns.map V.str, .str y, rfl, rfl, oq6, (by rw [sizeLine_eq, List.length_map]; omega), ns ++ [y], by rw [upd_same]; simp, by simp [ln], ?_, ?_, ?_, ?_, _, _, _, _, _, _, rfl⟩
            · rw [List.nodup_append]
              exact ⟨nn, by simp, fun a ha b hb => by
                obtain rfl : b = y := by simpa using hb
                exact fun z => hy3 (z ▸ ha)⟩
            · intro x hx
              rcases List.mem_append.mp hx with h | h
              · exact nok x h
              · obtain rfl : x = y := by simpa using h
                exact spok _ hy1
            · obtain ⟨cs', g, k, m, S⟩ := (S3.same k35).same sm6
              exact Strm.mono ⟨cs', g, k, m, by rw [upd_ne (Ne.symm aq.1)]; exact S.o, by rw [upd_ne (Ne.symm aq.2)]; exact S.c, S.ne, S.g0, S.k0, S.k1, S.m0, S.m1, S.sz⟩ (by omega)
            · intro b o h1 h2 e
              have nb : b ≠ q := ne_of_none e nq
              rw [upd_ne nb]
              exact sm6 _ _ (k35 _ _ (B13 _ _ h1 h2 (B1 _ _ h1 h2 e)))
  · rintro σ H1 ⟨ns, oq, ln, nn, nok, S1, B1, s3, s4, s5, s6, s7, s8, rfl⟩
    have em : ((many.toNat : Nat) : Int) = many := by omega
    rw [em] at S1
    exact ⟨_, rfl, hq H1 q ns (by omega) nn nok nq oq S1 B1⟩
end
end L2.TB
namespace L2.TB
open PySem PySem.Spec PyProof.Rows
theorem paired_snoc {α β : Type} {F : α → β → Prop} {x : α} {y : β} (h : F x y) : ∀ {xs : List α} {ys : List β}, Paired F xs ys → Paired F (xs ++ [x]) (ys ++ [y])
  | _, _, .nil => .cons h .nil
  | _, _, .cons r t => .cons r (paired_snoc h t)
theorem paired_map {α β γ : Type} {F : α → γ → Prop} {g : β → γ} : ∀ {xs : List α} {ys : List β}, Paired (fun x y => F x (g y)) xs ys → Paired F xs (ys.map g)
  | _, _, .nil => .nil
  | _, _, .cons r t => .cons r (paired_map t)
/-- the pairs of a row: names and ints -/
def dk (ns : List Str) (vs : List Int) : List (Key × V) := (ns.zip vs).map fun p => (Sum.inr p.1, V.int p.2)
theorem merge_new : ∀ (more acc : List (Key × V)), ((acc ++ more).map (·.1)).Nodup → mergeK acc more = acc ++ more
  | [], acc, _ => by simp [mergeK]
  | p :: more, acc, h => by
    have hn : valV acc p.1 = none := by
      cases e : valV acc p.1 with
      | none => rfl
      | some v =>
        exfalso
        have z : (valV acc p.1).isSome = true := by rw [e]; rfl
        rw [← valV_any, List.any_eq_true] at z
        obtain ⟨q, hq, hq2⟩ := z
        have hq3 : q.1 = p.1 := of_decide_eq_true hq2
        rw [List.map_append, List.nodup_append] at h
        exact h.2.2 q.1 (List.mem_map_of_mem hq) p.1 (List.mem_map_of_mem List.mem_cons_self) hq3
    show mergeK (putK acc p.1 p.2) more = _
    rw [putK_new p.2 hn, merge_new more _ (by rw [List.append_assoc]; exact h), List.append_assoc]
    rfl
theorem merge_nd {kvs : List (Key × V)} (h : (kvs.map (·.1)).Nodup) : mergeK [] kvs = kvs := by
  rw [merge_new kvs [] (by simpa using h), List.nil_append]
theorem dk_keys {ns : List Str} {vs : List Int} (h : ns.length = vs.length) : (dk ns vs).map (·.1) = ns.map Sum.inr := by
  unfold dk
  rw [List.map_map]
  have e : ((fun x => x.1) ∘ fun p : Str × Int => ((Sum.inr p.1 : Key), V.int p.2)) = (fun p : Str × Int => (Sum.inr p.1 : Key)) := rfl
  rw [e]
  have e2 : (ns.zip vs).map (fun p : Str × Int => (Sum.inr p.1 : Key)) = ((ns.zip vs).map Prod.fst).map Sum.inr := by rw [List.map_map]; rfl
  rw [e2, List.map_fst_zip (by omega)]
theorem dk_nd {ns : List Str} {vs : List Int} (h : ns.length = vs.length) (nd : ns.Nodup) : ((dk ns vs).map (·.1)).Nodup := by
  rw [dk_keys h]
  exact List.Pairwise.map Sum.inr (fun a b h e => h (Sum.inr.inj e)) nd
/-- rows as they are drawn: at as dicts with the names ns and the ints of tbl -/
def RowsAt (H : Hp) (l ls : Addr) (ns : List Str) : List Addr → List (List Int) → Prop :=
  Paired fun a vs => H a = some (.dK (dk ns vs)) ∧ vs.length = ns.length ∧ a ≠ l ∧ a ≠ ls
theorem RowsAt.but {H H' : Hp} {l ls : Addr} {ns : List Str} {as : List Addr} {tbl : List (List Int)} (r : RowsAt H l ls ns as tbl) (b : But l ls H H') : RowsAt H' l ls ns as tbl :=
  Paired.mapP r fun a vs h => ⟨b _ _ h.2.2.1 h.2.2.2 h.1, h.2⟩
def spRows : Sp := fun vs H Q _ => ∃ (l ls : Addr) (many rows values N : Int), vs = [.ref l, .int many, .int rows, .int values] ∧ Strm H l ls N ∧ N ≤ 500000 ∧ 0 < many ∧ many ≤ 10 ∧ 0 < rows ∧ rows ≤ 20 ∧ 0 < values ∧ values ≤ 100 ∧
  ∀ H' q as ns tbl, (ns : List Str).length ≤ 10 → ns ≠ [] → ns.Nodup → (∀ x ∈ ns, NmS x) → (tbl : List (List Int)).length ≤ 20 → tbl ≠ [] → (∀ u ∈ tbl, ∀ z ∈ u, -1 ≤ z ∧ z ≤ 100) → H q = none → q ≠ l → q ≠ ls → H' q = some (.lst (as.map V.ref)) → RowsAt H' l ls ns as tbl →
    Strm H' l ls (N + 1000) → But l ls H H' → Q (.ref q) H'
abbrev NR : List Str := ["stream", "many", "rows", "values", "names", "found", "k", "name"]
theorem scRows : FnScope NR ["stream", "many", "rows", "values"] (defScope sRows) := ⟨rfl, rfl, rfl, by decide +kernel, rfl, by decide +kernel, by decide +kernel⟩
section
variable {P : Program} {w : World} {K : PySem.W.Frag} {mg : Str → Option Value} {base : Heap} {f fD fP fN : Addr} {fd fdD fdP fdN : FuncData}
theorem ok_rows (F : Fun K "_law_t_rows" "_law_t_rows" sRows f fd) (FN : Fun K "_law_t_names" "_law_t_names" sNames fN fdN) (gNm : mg "_law_t_names" = some (.ref fN)) (FP : Fun K "_law_pick" "_law_pick" sPick fP fdP) (gP : mg "_law_pick" = some (.ref fP)) (FD : Fun K "_law_draw" "_law_draw" sDraw fD fdD)
    (gD : mg "_law_draw" = some (.ref fD)) (gI : mg "int" = none) (gN : mg "len" = none) (gR : mg "range" = none) (gDi : mg "dict" = none) : FnOk P w K mg base CX0 4 f fd ["stream", "many", "rows", "values"] spRows := by
  have G : FnOk P w K mg base CX0 1 fD fdD ["stream", "many"] spDraw := ok_draw FD gI
  have b := FD.binds (ps := ["stream", "many"]) fun _ _ _ _ _ _ us hl => match us, hl with | [_, _], _ => rfl
  have GN : FnOk P w K mg base CX0 3 fN fdN ["stream", "many"] spNames := ok_names FN FP gP FD gD gI gN gR
  have bN := FN.binds (ps := ["stream", "many"]) fun _ _ _ _ _ _ us hl => match us, hl with | [_, _], _ => rfl
  refine F.ok scRows (fun vs H Q E h => by obtain ⟨l, ls, a, b, c, N, e, _⟩ := h; rw [e]; rfl) fun cdv A outer s H vs Q E hr hsp => ?_
  obtain ⟨l, ls, many, rws, vals, N, rfl, hS, hN, m0, m1, w0, w1, v0, v1, hq⟩ := hsp
  have nd := scRows.nd
  refine ⟨_, pss_cons (ps_par (i := 4) (j := 5) rfl nd rfl rfl (by decide) rfl rfl (pa_cons (pe_call GN hr rfl gNm FN.kp bN .nil pass0 (pa_cons (pv 0) (pa_cons (pe_op op_add pe_int (pe_call G (hr.mono (by decide)) rfl gD FD.kp b .nil pass0 (pa_cons (pv 0) (pa_cons (pv 1) pa_nil)))) pa_nil))) (pa_cons (pe_lst pa_nil) pa_nil)) (by rfl))
    (pss_cons (ps_for PassesOwn.never rfl (pi_range1 rfl gR (pa_cons (pe_op op_add pe_int (pe_call G (hr.mono (by decide)) rfl gD FD.kp b .nil pass0 (pa_cons (pv 0) (pa_cons (pv 2) pa_nil)))) pa_nil)) (pg_name (i := 6) nd rfl (Or.inl rfl))
      (pss_one (ps_expr (pe_bm PySem.F.plainAttrs_list PySem.F.slot_list_append PySem.F.type_list_append mt_append (pv 5) (pa_cons (pe_callTy (call_dictP rfl) rfl gDi (by decide +kernel) (pa_cons (pe_lc (own := [("name", 7)]) (tt := tYes) rfl nd (pi_list (pv 4)) (blkOk_by (N := NR) (sc := defScope sRows) (by decide +kernel))
        (fun _ _ _ _ _ => pg_name (i := 7) nd rfl (Or.inl rfl)) (fun _ _ _ _ _ => pts_nil) (fun _ _ _ _ _ => pe_tup (pa_cons (pv 7) (pa_cons (pe_op op_sub (pe_call G (hr.mono (by decide)) rfl gD FD.kp b .nil pass0 (pa_cons (pv 0) (pa_cons (pv 3) pa_nil))) pe_int) pa_nil)))) pa_nil)) pa_nil)))))
    (pss_one (ps_ret (pv 5)))), ?_⟩
  refine ⟨_, rfl, _, rfl, _, rfl, l, ls, many, N, rfl, hS, by omega, by omega, by omega, fun H1 r r0 r1 S1 B1 => ?_⟩
  refine ⟨_, _, rfl, rfl, l, ls, 1 + r, N + 1, rfl, S1, by omega, by omega, by omega, fun H2 c ns lns nds oks nc oc S2 B2 => ?_⟩
  have ac := S1.apart (Same.refl _) nc
  have nl : 1 ≤ ns.length ∧ ns.length ≤ 10 := by omega
  refine ⟨Nat.zero_le _, fun q nq => ?_⟩
  have aq := S2.apart (Same.refl _) nq
  have S2' : Strm H2 l ls (N + 60) := S2.mono (by omega)
  have B12 := B1.trans B2
  have cq : c ≠ q := fun z => by rw [z, nq] at oc; cases oc
  refine ⟨_, _, rfl, ?_⟩
  refine ⟨_, rfl, _, rfl, l, ls, rws, _, rfl, S2'.same (same_new nq), by omega, w0, by omega, fun H3 r' r0' r1' S3 B3 => ?_⟩
  have oc3 := B3 _ _ ac.1 ac.2 (same_new nq _ _ oc)
  have oq3 := B3 _ _ aq.1 aq.2 (upd_same (H := H2) (a := q) (o := .lst []))
  have B03 : But l ls H H3 := (B12.trans (But.of (same_new nq))).trans B3
  refine ⟨_, _, rfl, rfl, 1 + r', rfl, by omega, by omega, for_range (n := (1 + r').toNat) (fun i σ H' => (∃ as tbl, H' q = some (.lst ((as : List Addr).map V.ref)) ∧ RowsAt H' l ls ns as tbl ∧ tbl.length = i ∧ ∀ u ∈ tbl, ∀ z ∈ u, -1 ≤ z ∧ z ≤ 100) ∧ H' c = some (.lst (ns.map V.str)) ∧ Strm H' l ls (N + 70 + 12 * i) ∧ But l ls H H' ∧
    ∃ s6 s7, σ = [some (.ref l), some (.int many), some (.int rws), some (.int vals), some (.ref c), some (.ref q), s6, s7]) ⟨⟨[], [], oq3, .nil, rfl, fun u hu => by cases hu⟩, oc3, S3.mono (by omega), B03, _, _, rfl⟩ ?_ ?_⟩
  · rintro i σ H4 hi ⟨⟨as, tbl, oq4, R4, lt4, bd4⟩, oc4, S4, B4, s6, s7, rfl⟩
    have hi2 : (i : Int) < 20 := by omega
    refine ⟨_, rfl, .inl ⟨rfl, _, SqL.of oq4⟩, _, rfl, c, rfl, ⟨_, SqL.of oc4⟩, fun D nD => ?_⟩
    have aD := S4.apart (Same.refl _) nD
    have Dq : D ≠ q := fun z => by rw [z, oq4] at nD; cases nD
    refine lc_list (xs := ns.map V.str) (fun j H' => ∃ ps vs, H' D = some (.lst ((ps : List Addr).map V.ref)) ∧ Paired (fun p (kv : Str × Int) => H' p = some (.tup [.str kv.1, .int kv.2]) ∧ p ≠ l ∧ p ≠ ls) ps ((ns.take j).zip vs) ∧ vs.length = j ∧ (∀ z ∈ vs, -1 ≤ z ∧ z ≤ 100) ∧
      Strm H' l ls (N + 70 + 12 * i + j) ∧ But l ls H4 H') ⟨[], [], upd_same, .nil, rfl, (fun z hz => by cases hz), by simpa using S4.same (same_new nD), But.of (same_new nD)⟩ (fun j H' _ h => SqL.of (h.choose_spec.choose_spec.2.2.2.2.2 _ _ ac.1 ac.2 oc4)) ?_ ?_
    · rintro j v H5 ev ⟨ps, vs, oD, pr, lv, bv, S5, B5⟩
      rw [List.getElem?_map] at ev
      obtain ⟨x, ex, rfl⟩ := Option.map_eq_some_iff.mp ev
      have hj : j < ns.length := (List.getElem?_eq_some_iff.mp ex).1
      have et : ns.take (j + 1) = ns.take j ++ [x] := by rw [List.take_succ, ex]; rfl
      refine ⟨rfl, ?_⟩
      refine ⟨_, rfl, _, rfl, _, rfl, l, ls, vals, _, rfl, S5, by omega, v0, by omega, fun H6 z z0 z1 S6 B6 => ?_⟩
      refine ⟨_, _, rfl, rfl, (by rw [sizeLine_eq]; show 2 ≤ _; omega), fun p np => ?_⟩
      have ap := S6.apart (Same.refl _) np
      have k6 := same_new (o := .tup [.str x, .int (z - 1)]) np
      have oD6 := B6 _ _ aD.1 aD.2 oD
      have pD : p ≠ D := fun y => by rw [y, oD6] at np; cases np
      have lps : ps.length = j := by
        have e := Paired.length pr
        rw [List.length_zip, List.length_take] at e
        omega
      refine ⟨_, k6 _ _ oD6, (by rw [sizeLine_eq, List.length_map]; omega), ps ++ [p], vs ++ [z - 1], by rw [upd_same]; simp, ?_, by simp [lv], (fun y hy => by
        rcases List.mem_append.mp hy with hy | hy
        · exact bv y hy
        · rw [List.mem_singleton] at hy; omega), ?_, ?_⟩
      · rw [et, List.zip_append (by rw [List.length_take]; omega)]
        refine paired_snoc ⟨by rw [upd_ne pD, upd_same], ap⟩ (Paired.mapP pr fun a kv h => ⟨?_, h.2⟩)
        have na : a ≠ D := fun y => by rw [y, oD] at h; cases h.1
        rw [upd_ne na]
        exact k6 _ _ (B6 _ _ h.2.1 h.2.2 h.1)
      · obtain ⟨cs', g, k, m, S⟩ := S6.same k6
        exact Strm.mono ⟨cs', g, k, m, by rw [upd_ne (Ne.symm aD.1)]; exact S.o, by rw [upd_ne (Ne.symm aD.2)]; exact S.c, S.ne, S.g0, S.k0, S.k1, S.m0, S.m1, S.sz⟩ (by omega)
      · intro b' o h1 h2 e
        have nb : b' ≠ D := ne_of_none e nD
        rw [upd_ne nb]
        exact k6 _ _ (B6 _ _ h1 h2 (B5 _ _ h1 h2 e))
    · rintro H5 ⟨ps, vs, oD, pr, lv, bv, S5, B5⟩
      have etk : ns.take (ns.map V.str).length = ns := List.take_of_length_le (by rw [List.length_map]; omega)
      rw [etk] at pr
      have lv2 : vs.length = ns.length := by rw [lv, List.length_map]
      refine ⟨D, ps, dk ns vs, rfl, SqL.of oD, paired_map (Paired.mapP pr fun p kv h => SqT.of h.1), fun p np => ?_⟩
      rw [merge_nd (dk_nd lv2.symm nds)]
      have ap := S5.apart (Same.refl _) np
      have k5 := same_new (o := .dK (dk ns vs)) np
      have oq5 := k5 _ _ (B5 _ _ aq.1 aq.2 oq4)
      have las : as.length = i := by rw [Paired.length R4, lt4]
      have pq : p ≠ q := fun y => by rw [y, B5 _ _ aq.1 aq.2 oq4] at np; cases np
      have B6 : But l ls (upd H5 p (.dK (dk ns vs))) (upd (upd H5 p (.dK (dk ns vs))) q (.lst (as.map V.ref ++ [.ref p]))) → True := fun _ => trivial
      refine ⟨q, as.map V.ref, .ref p, rfl, rfl, oq5, (by rw [sizeLine_eq, List.length_map]; omega), ⟨as ++ [p], tbl ++ [vs], by rw [upd_same]; simp, ?_, by simp [lt4], fun u hu => by
        rcases List.mem_append.mp hu with hu | hu
        · exact bd4 u hu
        · rw [List.mem_singleton] at hu; rw [hu]; exact bv⟩, ?_, ?_, ?_, _, _, rfl⟩
      · refine paired_snoc ⟨by rw [upd_ne pq, upd_same], lv2, ap⟩ (Paired.mapP R4 fun a vs' h => ⟨?_, h.2⟩)
        have na : a ≠ q := fun y => by rw [y, oq4] at h; cases h.1
        rw [upd_ne na]
        exact k5 _ _ (B5 _ _ h.2.2.1 h.2.2.2 h.1)
      · rw [upd_ne cq]
        exact k5 _ _ (B5 _ _ ac.1 ac.2 oc4)
      · obtain ⟨cs', g, k, m, S⟩ := S5.same k5
        have lx : (ns.map V.str).length ≤ 10 := by rw [List.length_map]; omega
        exact Strm.mono ⟨cs', g, k, m, by rw [upd_ne (Ne.symm aq.1)]; exact S.o, by rw [upd_ne (Ne.symm aq.2)]; exact S.c, S.ne, S.g0, S.k0, S.k1, S.m0, S.m1, S.sz⟩ (by omega)
      · intro b' o h1 h2 e
        have nb : b' ≠ q := fun y => by
          have z := B12 _ _ h1 h2 e
          rw [y, nq] at z; cases z
        rw [upd_ne nb]
        exact k5 _ _ (B5 _ _ h1 h2 (B4 _ _ h1 h2 e))
  · rintro σ H4 ⟨⟨as, tbl, oq4, R4, lt4, bd4⟩, oc4, S4, B4, s6, s7, rfl⟩
    have nq0 : H q = none := by
      cases e : H q with
      | none => rfl
      | some o => have z := B12 _ _ aq.1 aq.2 e; rw [nq] at z; cases z
    have nn : ns ≠ [] := fun z => by rw [z] at nl; simp at nl
    have tn : tbl ≠ [] := fun z => by rw [z] at lt4; simp at lt4; omega
    exact ⟨_, rfl, hq H4 q as ns tbl nl.2 nn nds oks (by omega) tn bd4 nq0 aq.1 aq.2 oq4 R4 (S4.mono (by omega)) B4⟩
end
end L2.TB
namespace L2.TB
open PySem
open PySem.Spec PyProof.Rows
/-! for i, x in enumerate(thing), thing a list or a tuple -/
abbrev tupIter (t : Addr) : Obj := { cls := .type "tuple_iterator", data := .fields #[.ref t, .int 0 0] }
abbrev enumRec (q : Addr) : Obj := { cls := .type "enumerate", data := .fields #[.none, .bool false, .ref q, rawInt 0, .none, .none] }
section
variable {P : Program} {w : World}
/-- what enumerate's maker does with a tuple -/
theorem made_enum (t : Addr) (ys : Array Value) : Meets (Builtin.«enumerate.__new__» ⟨[.type "enumerate", .ref t], []⟩) fun _ done z =>
    z.heap.IsTuple t ys ∧ done (.ok (.ret (.ref (z.heap.push (tupIter t)).objs.size))) { z with heap := (z.heap.push (tupIter t)).push (enumRec z.heap.objs.size) } :=
  .of_wp fun _ _ _ _ z hz => by
    obtain ⟨h0, gs, ds, tk, os⟩ := z
    obtain ⟨isT, fin⟩ := hz
    have sub := sub_enumerate
    have step : ∀ {A' : Around} {E' : Value → Shared → Prop} {Q' : Value → Shared → Prop} {P' : Program} {w' : World}, Q' (.ref h0.objs.size) ⟨h0.push (tupIter t), gs, ds, tk, os⟩ → wpAny (model P' w') A' (pyIter (.ref t)) Q' E' ⟨h0, gs, ds, tk, os⟩ :=
      fun more => wpAny_pyIter_tuple (s := ⟨h0, gs, ds, tk, os⟩) isT more
    wp_walk using step
    refine wpAny_stack_any (fun _ => wpAny_pure ?_)
    split
    · rename_i c _ _ _ _ _
      rcases (c == Value.type "enumerate") with _ | _ <;> (wp_walk using step; exact ⟨_, rfl, fin⟩)
    · wp_walk using step
      exact ⟨_, rfl, fin⟩
/-- the call -/
theorem enum_of_tuple {A : Around} {z : Shared} {E Q : Value → Shared → Prop} {t : Addr} {ys : Array Value} (isT : z.heap.IsTuple t ys)
    (more : IsEnum ((z.heap.push (tupIter t)).push (enumRec z.heap.objs.size)) (z.heap.objs.size + 1) z.heap.objs.size 0 .none →
      Q (.ref (z.heap.objs.size + 1)) { z with heap := (z.heap.push (tupIter t)).push (enumRec z.heap.objs.size) }) : wpAny (model P w) A (call (.type "enumerate") [.ref t]) Q E z := by
  refine callType_new F.called_enumerate (by decide) (F.typeCall_enumerate_1 _) (F.newCall_enumerate_1 _) (fun b => F.args_object_init_2 b _) F.entry_enumerate_new (made_enum t ys) ⟨isT, ?_⟩
  have size1 : (z.heap.push (tupIter t)).objs.size = z.heap.objs.size + 1 := Heap.size_push ..
  have rec1 := Heap.get?_push_size (z.heap.push (tupIter t)) (o := enumRec z.heap.objs.size) rfl
  rw [size1] at rec1
  show _ ∧ _
  rw [size1]
  exact ⟨⟨_, rec1, rfl⟩, more rec1⟩
end
/-- the items of the tuple at t, each in a new pair with its number -/
def IteT (K : PySem.W.Frag) (t : Addr) : It where
  go i H := ∃ (ys : List V) (y : V), SqT K H t ys ∧ ys[i]? = some y
  yld i H v H' := ∃ T y, v = .ref T ∧ H T = none ∧ H' = upd H T (.tup [.int (i : Nat), y]) ∧ ∀ ys, SqT K H t ys → ys[i]? = some y
  stop i H := ∃ ys : List V, SqT K H t ys ∧ ys.length ≤ i
/-- three records of three classes stand at three places -/
theorem three {h : Heap} {t q r : Addr} {ys : Array Value} {i : Nat} {c : Int} {old : Value} (isT : h.IsTuple t ys) (isQ : h.IsTupleIter q t i) (isR : IsEnum h r q c old) : t ≠ q ∧ r ≠ t := by
  obtain ⟨ot, gt, ct, _⟩ := isT
  obtain ⟨oq, gq, cq, _⟩ := isQ
  have ct : ot.cls = Value.type "tuple" := ct
  have cq : oq.cls = Value.type "tuple_iterator" := cq
  constructor
  · rintro rfl
    rw [gt] at gq
    injection gq with same
    rw [← same, ct] at cq
    exact absurd cq (by decide)
  · rintro rfl
    have gr := isR
    unfold IsEnum at gr
    rw [gt] at gr
    injection gr with same
    rw [same] at ct
    exact absurd (show Value.type "enumerate" = Value.type "tuple" from ct) (by decide)
theorem two_of {b r q : Addr} {p : Addr → Prop} (hr : p r) (hq : p q) (hb : b ∈ [r, q]) : p b := by
  rcases List.mem_cons.mp hb with rfl | hb
  · exact hr
  · obtain rfl := List.mem_singleton.mp hb
    exact hq
theorem turn_enumT {P : Program} {w : World} {K : PySem.W.Frag} {elts : List Expr} {kk : Nat} {tpos : Pos} (t r q : Addr) :
    Turn P w K (.Tuple elts kk tpos) (IteT K t) [r, q] r (fun i h => r ≠ q ∧ h.IsTupleIter q t i ∧ ∃ old, IsEnum h r q ((i : Nat) : Int) old) := by
  refine ⟨List.mem_cons_self, fun i h st b hb => ?_, fun i h h' st same => ?_, ?_, ?_, fun A i z Q E st more => ?_⟩
  · obtain ⟨_, ⟨oq, gq, _, dq⟩, old, gr⟩ := st
    exact two_of (p := fun b => ∃ o, h.get? b = some o ∧ ∀ v, o.data ≠ .cell v) ⟨_, gr, fun _ e => nomatch e⟩ ⟨oq, gq, fun _ e => by rw [dq] at e; exact nomatch e⟩ hb
  · obtain ⟨ne, gq, old, gr⟩ := st
    exact ⟨ne, gq.at fun o e => same q (List.mem_cons_of_mem _ List.mem_cons_self) o e, old, same r List.mem_cons_self _ gr⟩
  · rintro X rfl rfl rfl calm i pins z σ H E I room ⟨ne, gq, old, gr⟩ ⟨ys, y, isY, nth⟩
    obtain ⟨vs, rel, isT, _⟩ := I.tuple isY
    obtain ⟨v, nthV, relV⟩ := rel.get nth
    have isT : z.heap.IsTuple t vs.toArray := isT
    obtain ⟨tq, rt⟩ := three isT gq gr
    have lr : r < z.heap.objs.size := Heap.lt_size gr
    have lq : q < z.heap.objs.size := gq.elim fun _ e => Heap.lt_size e.1
    have inside : i < vs.toArray.size := by
      have := (List.getElem?_eq_some_iff.mp nthV).1
      simpa using this
    have draws := Draws.tuple (prog := X.prog) (w := X.w) (A := X.A.in1) (I.ok.hd calm) q t tq vs.toArray
    refine wpAny_pyNext_enum_itemC draws gr ⟨gq, isT⟩ inside ne (fun m => two_of (p := fun b => r = b → False) ne rt m rfl) fun v' h1 tk hv out stQ newT _ kept1 => ?_
    obtain rfl : v' = v := by
      have hv : vs.toArray[i]? = some v' := hv
      rw [List.getElem?_toArray, nthV] at hv
      exact (Option.some.inj hv).symm
    refine ⟨_, rfl, wpAny_letOwnedTupleGo_enum (s := { z with heap := h1, toks := tk + 1 }) out fun h2 back same2 => ?_⟩
    have at2 : ∀ b o, b ∉ [r, q] → z.heap.get? b = some o → h2.get? b = some o := fun b o away e =>
      (same2.2 b fun k => away (k ▸ List.mem_cons_self)).trans (kept1 b o (fun k => away (k ▸ List.mem_cons_self)) (fun k => away (k ▸ List.mem_cons_of_mem _ List.mem_cons_self)) e)
    have pair : ObjOk X.prog X.w (upd H z.heap.objs.size (.tup [.int (i : Nat), y])) h2 z.heap.objs.size (.tup [.int (i : Nat), y]) :=
      ⟨show 2 ≤ sizeLine by decide, [.int i tk, v'], .cons ⟨tk, rfl⟩ (.cons relV .nil), _, (same2.2 _ (Nat.ne_of_gt lr)).trans newT, rfl, _, rfl⟩
    refine ⟨.ref z.heap.objs.size, _, I.turnedNew (t' := tk + 1) at2 room (Nat.le_refl _) pair, rfl, ⟨_, y, rfl, I.hok.fresh (Nat.le_refl _), rfl, fun ys' is' => ?_⟩, ⟨ne, ?_, v', ?_⟩, fun b hb => ?_⟩
    · rw [I.tuple_inj is' isY]; exact nth
    · exact stQ.1.at fun o e => (same2.2 q ne.symm).trans e
    · rw [show ((i + 1 : Nat) : Int) = (i : Int) + 1 from by omega]; exact back
    · have lb : b < z.heap.objs.size := two_of (p := fun b => b < z.heap.objs.size) lr lq hb
      rw [upd_ne (Nat.ne_of_lt lb)]
      exact (room b hb).1
  · rintro X rfl rfl rfl calm i pins z σ H E I room ⟨ne, gq, old, gr⟩ ⟨ys, isY, past⟩
    obtain ⟨vs, rel, isT, _⟩ := I.tuple isY
    have isT : z.heap.IsTuple t vs.toArray := isT
    obtain ⟨k0, k1, k2, k3, k4, k5⟩ := room q (List.mem_cons_of_mem _ List.mem_cons_self)
    have isE : z.TypeIs (.ref r) "enumerate" := ⟨_, gr, rfl⟩
    have len := rel.length
    have past : vs.toArray[i]? = none := by rw [List.getElem?_toArray, List.getElem?_eq_none_iff]; omega
    unfold pyNext
    refine wpAny_bind (wpAny_attempt (wpAny_callSpecial?_slot (name := Str.ofString "__next__") isE F.slot_enumerate_next (wpAny_call_entry F.slot_enumerate_next isE F.entry_enumerate_next ?_ (F.args_enumerate_next_1 _))))
    show wpAny _ _ (field (.ref r) 2 >>= _) _ _ z
    refine wpAny_bind (wpAny_field gr rfl (x := .ref q) rfl (wpAny_bind (wpAny_nextOf_tuple_end (I.ok.hd calm) gq isT past fun h1 x but ⟨ox, gx, cx⟩ => ?_)))
    exact wpAny_bind (wpAny_isInstance (T := "StopIteration") (b := true) ⟨ox, gx, cx⟩ isSubtype_stop (wpAny_pure ⟨rfl, I.turned (t' := z.toks) (fun b o away e => but b o away e) k0 k1 k3 k4 k5⟩))
  · obtain ⟨_, _, old, gr⟩ := st
    exact wpAny_pyIter_enum gr more
/-- the reading of enumerate over a list or over a tuple -/
def iEnumS (K : PySem.W.Frag) (ta : TA) : TI := fun σ H R => ta σ H fun vs H1 => ∃ a xs, vs = [.ref a] ∧ ((SqL K H1 a xs ∧ R (Ite K a) H1) ∨ (SqT K H1 a xs ∧ R (IteT K a) H1))
theorem pi_enumS {X : Cx} {e : Expr} {ta : TA} {p pos tpos : Pos} {elts : List Expr} {kk : Nat} (hg : Gl X "enumerate") (hm : X.mg "enumerate" = none) (ha : PA X [e] ta) (hs : starEach [e] X.env = [(false, eval e X.env)] := by rfl) :
    PI X (.Tuple elts kk tpos) (.Call (.Name "enumerate" p) [e] [] pos) (iEnumS X.K ta) := by
  refine PI.mk fun pins z σ H R I reading => Call_ (ld_blt I hg hm boot_enumerate (PyProof.Rows.callWith_type1 (thn (ha.run pos pins z σ H _ I reading) fun us z1 hu => ?_) hs rfl))
  obtain ⟨vs, H1, I1, rel, a, xs, rfl, cases2⟩ := hu
  match us, rel with
  | [u], .cons ru .nil =>
    obtain rfl : u = Value.ref a := ru
    have fresh : ∀ b ∈ [z1.heap.objs.size + 1, z1.heap.objs.size], FpOk X pins H1 b := fun b hb =>
      have far : z1.heap.objs.size ≤ b := two_of (p := fun b => z1.heap.objs.size ≤ b) (Nat.le_succ _) (Nat.le_refl _) hb
      I1.fpOk far (I1.hok.fresh far)
    rcases cases2 with ⟨sq, q⟩ | ⟨sq, q⟩
    · obtain ⟨its, rv, isL, _⟩ := I1.list sq
      exact call_enumerate_list isL.isList fun h' gE gI _ kept => wpAny_pyIter_enum gE ⟨_, _, _, _, H1, rfl, I1.kept (t' := z1.toks) kept, turn_enum a _ _, ⟨⟨.none, gE⟩, gI, Nat.succ_ne_self _⟩, fresh, q⟩
    · obtain ⟨its, rv, isT, _⟩ := I1.tuple sq
      have isT : z1.heap.IsTuple a its.toArray := isT
      refine enum_of_tuple isT fun gE => wpAny_pyIter_enum gE ⟨_, _, _, _, H1, rfl, I1.kept (t' := z1.toks) fun b o e => ?_, turn_enumT a _ _, ⟨Nat.succ_ne_self _, ?_, .none, gE⟩, fresh, q⟩
      · exact Heap.get?_push_of_some _ (Heap.get?_push_of_some _ e)
      · exact ⟨_, Heap.get?_push_of_some _ (Heap.get?_push_size _ rfl), rfl, rfl⟩
end L2.TB
namespace L2.TB
open PySem PySem.Spec PyProof.Rows
/-! the program's looks at what it is passed -/
theorem boot_int' : bootBuiltins "int" = some (.type "int") := by decide +kernel
theorem boot_bool' : bootBuiltins "bool" = some (.type "bool") := by decide +kernel
theorem boot_str' : bootBuiltins "str" = some (.type "str") := by decide +kernel
theorem boot_list' : bootBuiltins "list" = some (.type "list") := by decide +kernel
theorem boot_tuple' : bootBuiltins "tuple" = some (.type "tuple") := by decide +kernel
theorem boot_dict' : bootBuiltins "dict" = some (.type "dict") := by decide +kernel
theorem boot_isi : bootBuiltins "isinstance" = some (.builtin "isinstance") := by decide +kernel
/-- the list or the tuple at a -/
def SqA (K : PySem.W.Frag) (H : Hp) (a : Addr) (xs : List V) : Prop := H a = some (.lst xs) ∨ H a = some (.tup xs)
theorem SqA.seq {K : PySem.W.Frag} {H : Hp} {a : Addr} {xs : List V} (h : SqA K H a xs) : SqL K H a xs ∨ SqT K H a xs := h.imp SqL.of SqT.of
theorem SqA.same {K : PySem.W.Frag} {H H' : Hp} {a : Addr} {xs : List V} (h : SqA K H a xs) (s : Same H H') : SqA K H' a xs := h.imp (s _ _) (s _ _)
theorem kit_two_l {K : PySem.W.Frag} : PySem.W.kitAny K (.type "list") [.type "list", .type "tuple"] = some true := by
  unfold PySem.W.kitAny
  rw [kit_ty (K := K) (a := "list") (b := "list") (r := true) (by decide +kernel)]
theorem kit_two_t {K : PySem.W.Frag} : PySem.W.kitAny K (.type "tuple") [.type "list", .type "tuple"] = some true := by
  unfold PySem.W.kitAny
  rw [kit_ty (K := K) (a := "tuple") (b := "list") (r := false) (by decide +kernel)]
  dsimp only
  unfold PySem.W.kitAny
  rw [kit_ty (K := K) (a := "tuple") (b := "tuple") (r := true) (by decide +kernel)]
def spIsInt : Sp := fun vs H Q _ => ∃ k : Int, vs = [.int k] ∧ Q (.bl true) H
def spIsList (K : PySem.W.Frag) : Sp := fun vs H Q _ => ∃ (a : Addr) (xs : List V), vs = [.ref a] ∧ SqA K H a xs ∧ ∀ H', Same H H' → Q (.bl true) H'
def spIsOne (K : PySem.W.Frag) : Sp := fun vs H Q _ => ∃ (c : Addr) (ns : List Str) (x : Str), vs = [.ref c, .str x] ∧ SqL K H c (ns.map V.str) ∧ Q (.bl (decide (x ∈ ns))) H
/-- no bad one -/
def spFirst (K : PySem.W.Frag) : Sp := fun vs H Q _ => ∃ (c a : Addr) (ns known : List Str), vs = [.ref c, .ref a] ∧ H c = some (.lst (ns.map V.str)) ∧ SqA K H a (known.map V.str) ∧ known.Nodup ∧ (∀ x ∈ known, x ∈ ns) ∧ known.length < 1000 ∧ ∀ H', Same H H' → Q .non H'
theorem scIsInt : FnScope ["thing"] ["thing"] (defScope sIsInt) := ⟨rfl, rfl, rfl, by decide +kernel, rfl, by decide +kernel, by decide +kernel⟩
theorem scIsList : FnScope ["thing"] ["thing"] (defScope sIsList) := ⟨rfl, rfl, rfl, by decide +kernel, rfl, by decide +kernel, by decide +kernel⟩
theorem scIsOne : FnScope ["names", "thing"] ["names", "thing"] (defScope sIsOne) := ⟨rfl, rfl, rfl, by decide +kernel, rfl, by decide +kernel, by decide +kernel⟩
abbrev NF : List Str := ["names", "things", "seen", "index", "thing"]
theorem scFirst : FnScope NF ["names", "things"] (defScope sFirst) := ⟨rfl, rfl, rfl, by decide +kernel, rfl, by decide +kernel, by decide +kernel⟩
section
variable {P : Program} {w : World} {K : PySem.W.Frag} {mg : Str → Option Value} {base : Heap} {f fL fO : Addr} {fd fdL fdO : FuncData}
theorem ok_isInt (F : Fun K "is_integer" "is_integer" sIsInt f fd) (gI : mg "isinstance" = none) (gInt : mg "int" = none) (gB : mg "bool" = none) : FnOk P w K mg base CX0 1 f fd ["thing"] spIsInt := by
  refine F.ok scIsInt (fun vs H Q E h => by obtain ⟨k, e, _⟩ := h; rw [e]; rfl) fun cdv A outer s H vs Q E hr hsp => ?_
  obtain ⟨k, rfl, hq⟩ := hsp
  refine ⟨_, pss_one (ps_ret (pe_and (pe_callB (r := rIsi K) call_isi rfl gI boot_isi (pa_cons (pv 0) (pa_cons (pe_bltn (v := .ty "int") rfl gInt boot_int' rfl) pa_nil)))
    (pe_one (pe_not (pe_callB (r := rIsi K) call_isi rfl gI boot_isi (pa_cons (pv 0) (pa_cons (pe_bltn (v := .ty "bool") rfl gB boot_bool' rfl) pa_nil))))))), ?_⟩
  exact ⟨_, rfl, _, _, _, _, true, rfl, .ty _, .base (.int k), kit_ty (by decide +kernel), true, rfl, _, rfl, _, _, _, _, false, rfl, .ty _, .base (.int k), kit_ty (by decide +kernel), false, rfl, hq⟩
theorem ok_isList (F : Fun K "is_list" "is_list" sIsList f fd) (gI : mg "isinstance" = none) (gL : mg "list" = none) (gT : mg "tuple" = none) : FnOk P w K mg base CX0 1 f fd ["thing"] (spIsList K) := by
  refine F.ok scIsList (fun vs H Q E h => by obtain ⟨a, xs, e, _⟩ := h; rw [e]; rfl) fun cdv A outer s H vs Q E hr hsp => ?_
  obtain ⟨a, xs, rfl, hS, hq⟩ := hsp
  refine ⟨_, pss_one (ps_ret (pe_callB (r := rIsiT K) call_isiT rfl gI boot_isi (pa_cons (pv 0) (pa_cons (pe_tup (pa_cons (pe_bltn (v := .ty "list") rfl gL boot_list' rfl) (pa_cons (pe_bltn (v := .ty "tuple") rfl gT boot_tuple' rfl) pa_nil))) pa_nil)))), ?_⟩
  refine ⟨_, rfl, (by show 2 ≤ sizeLine; decide), fun t nt => ?_⟩
  have kt := same_new (o := .tup [.ty "list", .ty "tuple"]) nt
  rcases hS.same kt with e | e
  · exact ⟨_, _, _, _, _, true, rfl, upd_same, .cons (.ty _) (.cons (.ty _) .nil), .base (.lst e), kit_two_l, hq _ kt⟩
  · exact ⟨_, _, _, _, _, true, rfl, upd_same, .cons (.ty _) (.cons (.ty _) .nil), .base (.tup e), kit_two_t, hq _ kt⟩
theorem ok_isOne (F : Fun K "is_one_of" "is_one_of" sIsOne f fd) (gI : mg "isinstance" = none) (gS : mg "str" = none) : FnOk P w K mg base CX0 1 f fd ["names", "thing"] (spIsOne K) := by
  refine F.ok scIsOne (fun vs H Q E h => by obtain ⟨c, ns, x, e, _⟩ := h; rw [e]; rfl) fun cdv A outer s H vs Q E hr hsp => ?_
  obtain ⟨c, ns, x, rfl, hS, hq⟩ := hsp
  refine ⟨_, pss_one (ps_ret (pe_and (pe_callB (r := rIsi K) call_isi rfl gI boot_isi (pa_cons (pv 1) (pa_cons (pe_bltn (v := .ty "str") rfl gS boot_str' rfl) pa_nil)))
    (pe_one (pe_cmpR op_in_seq (pv 1) (pv 0) rfl)))), ?_⟩
  refine ⟨_, rfl, _, _, _, _, true, rfl, .ty _, .base (.str x), kit_ty (by decide +kernel), true, rfl, _, rfl, _, rfl, c, _, rfl, .inl hS, rfl, flat_strs ns, ?_⟩
  rw [inV_strs]
  exact hq
/-- the dict of what was seen -/
def seenD (xs : List Str) : List (Key × V) := xs.map fun x => (Sum.inr x, V.bl true)
theorem seen_none {xs : List Str} {x : Str} (h : x ∉ xs) : valV (seenD xs) (Sum.inr x) = none := by
  cases e : valV (seenD xs) (Sum.inr x) with
  | none => rfl
  | some v =>
    exfalso
    have z : (valV (seenD xs) (Sum.inr x)).isSome = true := by rw [e]; rfl
    rw [← valV_any, List.any_eq_true] at z
    obtain ⟨q, hq, hq2⟩ := z
    obtain ⟨y, hy, rfl⟩ := List.mem_map.mp hq
    have hq3 : (Sum.inr y : Key) = Sum.inr x := of_decide_eq_true hq2
    exact h (Sum.inr.inj hq3 ▸ hy)
theorem seen_put {xs : List Str} {x : Str} (h : x ∉ xs) : putK (seenD xs) (Sum.inr x) (.bl true) = seenD (xs ++ [x]) := by
  rw [putK_new (.bl true) (seen_none h)]
  simp [seenD]
/-- what the for loop asks of its turns -/
def ForW (J : It) (g : TG) (tb : TS) (D : Ends) (σ : St) (H : Hp) : Prop := ∃ W : Nat → Nat → St → Hp → Prop, (∃ m, W 0 m σ H) ∧ ∀ i m σ H, W i m σ H →
  (J.stop i H ∧ D.nx σ H) ∨ (J.go i H ∧ ∃ N : St → Hp → Prop, (∀ σ' H', N σ' H' → ∃ m', m' < m ∧ W (i + 1) m' σ' H') ∧ ∀ x H', J.yld i H x H' → g x σ H' fun σ2 H2 => tb { D with nx := N, ct := N, bk := D.nx } σ2 H2)
theorem enum_seq {K : PySem.W.Frag} {a : Addr} {xs : List V} {o : HO} {g : TG} {tb : TS} {D : Ends} {σ : St} {H : Hp} (ko : o = .lst xs ∨ o = .tup xs) (Pv : Nat → St → Hp → Prop) (h0 : Pv 0 σ H) (hl : ∀ i σ H, i ≤ xs.length → Pv i σ H → H a = some o)
    (hs : ∀ i x σ H T, xs[i]? = some x → Pv i σ H → H T = none → g (.ref T) σ (upd H T (.tup [.int (i : Nat), x])) fun σ2 H2 => tb { D with nx := Pv (i + 1), ct := Pv (i + 1), bk := D.nx } σ2 H2) (hd : ∀ σ H, Pv xs.length σ H → D.nx σ H) :
    ∃ b ys, [V.ref a] = [V.ref b] ∧ ((SqL K H b ys ∧ ForW (Ite K b) g tb D σ H) ∨ (SqT K H b ys ∧ ForW (IteT K b) g tb D σ H)) := by
  have fin : ∀ J : It, (∀ i H, i < xs.length → H a = some o → J.go i H) → (∀ i H, i = xs.length → H a = some o → J.stop i H) → (∀ i H v H', i < xs.length → H a = some o → J.yld i H v H' → ∃ T x, v = .ref T ∧ H T = none ∧ H' = upd H T (.tup [.int (i : Nat), x]) ∧ xs[i]? = some x) → ForW J g tb D σ H := by
    intro J go stop yld
    refine ⟨fun i m σ H => m = xs.length - i ∧ i ≤ xs.length ∧ Pv i σ H, ⟨_, rfl, Nat.zero_le _, h0⟩, ?_⟩
    rintro i m σ H ⟨rfl, le, p⟩
    have q := hl i σ H le p
    by_cases lt : i < xs.length
    · refine .inr ⟨go i H lt q, Pv (i + 1), fun σ' H' p' => ⟨xs.length - (i + 1), by omega, rfl, lt, p'⟩, fun v H' y => ?_⟩
      obtain ⟨T, x, rfl, nT, rfl, ex⟩ := yld i H v H' lt q y
      exact hs i x σ H T ex p nT
    · obtain rfl : i = xs.length := by omega
      exact .inl ⟨stop _ H rfl q, hd σ H p⟩
  have q0 := hl 0 σ H (Nat.zero_le _) h0
  rcases ko with rfl | rfl
  · exact ⟨a, xs, rfl, .inl ⟨SqL.of q0, fin _ (fun i H lt q => ⟨xs, xs[i], SqL.of q, by simp [lt]⟩) (fun i H e' q => ⟨xs, SqL.of q, by omega⟩)
      (fun i H v H' lt q ⟨T, x, e1, e2, e3, e4⟩ => ⟨T, x, e1, e2, e3, e4 xs (SqL.of q)⟩)⟩⟩
  · exact ⟨a, xs, rfl, .inr ⟨SqT.of q0, fin _ (fun i H lt q => ⟨xs, xs[i], SqT.of q, by simp [lt]⟩) (fun i H e' q => ⟨xs, SqT.of q, by omega⟩)
      (fun i H v H' lt q ⟨T, x, e1, e2, e3, e4⟩ => ⟨T, x, e1, e2, e3, e4 xs (SqT.of q)⟩)⟩⟩
theorem ok_first (F : Fun K "first_bad" "first_bad" sFirst f fd) (FL : Fun K "is_list" "is_list" sIsList fL fdL) (gIL : mg "is_list" = some (.ref fL)) (FO : Fun K "is_one_of" "is_one_of" sIsOne fO fdO) (gIO : mg "is_one_of" = some (.ref fO))
    (gI : mg "isinstance" = none) (gL : mg "list" = none) (gT : mg "tuple" = none) (gS : mg "str" = none) (gE : mg "enumerate" = none) : FnOk P w K mg base CX0 2 f fd ["names", "things"] (spFirst K) := by
  have GL : FnOk P w K mg base CX0 1 fL fdL ["thing"] (spIsList K) := ok_isList FL gI gL gT
  have bL := FL.binds (ps := ["thing"]) fun _ _ _ _ _ _ us hl => match us, hl with | [_], _ => rfl
  have GO : FnOk P w K mg base CX0 1 fO fdO ["names", "thing"] (spIsOne K) := ok_isOne FO gI gS
  have bO := FO.binds (ps := ["names", "thing"]) fun _ _ _ _ _ _ us hl => match us, hl with | [_, _], _ => rfl
  refine F.ok scFirst (fun vs H Q E h => by obtain ⟨c, a, ns, known, e, _⟩ := h; rw [e]; rfl) fun cdv A outer s H vs Q E hr hsp => ?_
  obtain ⟨c, a, ns, known, rfl, hc, hS, nd1, sub, short, hq⟩ := hsp
  have nd := scFirst.nd
  have hu := hu_of hr
  refine ⟨_, pss_cons (ps_if (pt_not (pt_val (pe_call GL hr rfl gIL FL.kp bL .nil pass0 (pa_cons (pv 1) pa_nil)))) (pss_one ps_never) pss_nil)
    (pss_cons (ps_set (i := 2) nd rfl (Or.inl rfl) pe_dnewK)
    (pss_cons (ps_for PassesOwn.never rfl (pi_enumS rfl gE (pa_cons (pv 1) pa_nil)) (pg_tup rfl (pgs_cons (pg_name (i := 3) nd rfl (Or.inl rfl)) (pgs_cons (pg_name (i := 4) nd rfl (Or.inl rfl)) pgs_nil)))
      (pss_cons (ps_if (PW.pt (pw_or (pt_not (pt_val (pe_call GO hr rfl gIO FO.kp bO .nil pass0 (pa_cons (pv 0) (pa_cons (pv 4) pa_nil))))) (pw_or1 (pt_cmp (pc_din hu (pv 4) (pv 2)))))) (pss_one ps_never) pss_nil)
      (pss_one (ps_dput hu (pv 2) (pv 4) pe_bl rfl))))
    (pss_one (ps_ret pe_non)))), ?_⟩
  refine ⟨_, rfl, a, _, rfl, hS, fun H1 k1 => ⟨_, rfl, iteF fun d nd2 => ?_⟩⟩
  have kd := same_new (o := .dK []) nd2
  obtain ⟨o, ho, ko⟩ : ∃ o, H1 a = some o ∧ (o = .lst (known.map V.str) ∨ o = .tup (known.map V.str)) := by
    rcases hS.same k1 with e | e
    · exact ⟨_, e, .inl rfl⟩
    · exact ⟨_, e, .inr rfl⟩
  refine ⟨_, rfl, enum_seq ko (fun i σ H' => H' d = some (.dK (seenD (known.take i))) ∧ Same H1 H' ∧ ∃ s3 s4, σ = [some (.ref c), some (.ref a), some (.ref d), s3, s4])
    ⟨upd_same, kd, _, _, rfl⟩ (fun i σ H' _ h => h.2.1 _ _ ho) ?_ ?_⟩
  · rintro i v σ H2 T ev ⟨od, s2, s3, s4, rfl⟩ nT
    rw [List.getElem?_map] at ev
    obtain ⟨x, ex, rfl⟩ := Option.map_eq_some_iff.mp ev
    have hi : i < known.length := (List.getElem?_eq_some_iff.mp ex).1
    have kT := same_new (o := .tup [.int (i : Nat), .str x]) nT
    refine ⟨T, _, rfl, SqT.of upd_same, rfl, ?_⟩
    have e1 : known.take (i + 1) = known.take i ++ [x] := by rw [List.take_succ, ex]; rfl
    have notin : x ∉ known.take i := fun m => by
      have z := nd1
      rw [← List.take_append_drop (i + 1) known, e1, List.append_assoc, List.nodup_append] at z
      exact z.2.2 x m x (by simp) rfl
    have xin : x ∈ ns := sub x (List.mem_of_getElem? ex)
    refine ⟨_, _, rfl, _, _, rfl, rfl, ?_⟩
    refine ⟨_, rfl, _, rfl, c, ns, x, rfl, SqL.of (kT _ _ (s2 _ _ (k1 _ _ hc))), _, rfl, ?_⟩
    rw [decide_eq_true xin]
    refine iteF ⟨_, rfl, _, rfl, d, _, rfl, DGet.k (k := Sum.inr x) (kT _ _ od), ?_⟩
    rw [seen_none notin]
    refine ⟨_, rfl, iteF ?_⟩
    have small : (seenD (known.take i)).length < sizeLine := by
      rw [sizeLine_eq]
      unfold seenD
      rw [List.length_map, List.length_take]; omega
    refine ⟨_, rfl, _, rfl, d, _, rfl, DPut.k (k := Sum.inr x) (kT _ _ od) small, ?_, ?_, _, _, rfl⟩
    · rw [upd_same, seen_put notin, ← e1]
    · intro b u e
      have nb : b ≠ d := ne_of_none e nd2
      rw [upd_ne nb]
      exact kT _ _ (s2 _ _ e)
  · rintro σ H2 ⟨od, s2, s3, s4, rfl⟩
    exact hq _ (k1.trans s2)
end
end L2.TB
namespace L2.TB
open PySem PySem.Spec PyProof.Rows
/-! the checks, where nothing is wrong -/
def spCkA (K : PySem.W.Frag) : Sp := fun vs H Q _ => ∃ (c : Addr) (ns : List Str) (x : Str), vs = [.ref c, .str x] ∧ SqL K H c (ns.map V.str) ∧ x ∈ ns ∧ Q .non H
def spCkB (K : PySem.W.Frag) : Sp := fun vs H Q _ => ∃ (c a : Addr) (ns known : List Str) (x : Str), vs = [.ref c, .ref a, .str x] ∧ H c = some (.lst (ns.map V.str)) ∧ SqA K H a (known.map V.str) ∧ known.Nodup ∧ (∀ x ∈ known, x ∈ ns) ∧ known.length < 1000 ∧ x ∈ ns ∧ ∀ H', Same H H' → Q .non H'
theorem scCkK : FnScope ["names", "known", "index"] ["names", "known"] (defScope sCkK) := ⟨rfl, rfl, rfl, by decide +kernel, rfl, by decide +kernel, by decide +kernel⟩
theorem scCkA : FnScope ["names", "asked"] ["names", "asked"] (defScope sCkA) := ⟨rfl, rfl, rfl, by decide +kernel, rfl, by decide +kernel, by decide +kernel⟩
theorem scCkB : FnScope ["names", "known", "asked"] ["names", "known", "asked"] (defScope sCkB) := ⟨rfl, rfl, rfl, by decide +kernel, rfl, by decide +kernel, by decide +kernel⟩
/-- what the checks need of the module -/
structure Chk (K : PySem.W.Frag) (mg : Str → Option Value) (aF aL aO aK aA aB : Addr) : Prop where
  F : ∃ fd, Fun K "first_bad" "first_bad" sFirst aF fd
  L : ∃ fd, Fun K "is_list" "is_list" sIsList aL fd
  O : ∃ fd, Fun K "is_one_of" "is_one_of" sIsOne aO fd
  CK : ∃ fd, Fun K "check_known" "check_known" sCkK aK fd
  CA : ∃ fd, Fun K "check_asked" "check_asked" sCkA aA fd
  CB : ∃ fd, Fun K "check_both" "check_both" sCkB aB fd
  gF : mg "first_bad" = some (.ref aF)
  gL : mg "is_list" = some (.ref aL)
  gO : mg "is_one_of" = some (.ref aO)
  gCK : mg "check_known" = some (.ref aK)
  gCA : mg "check_asked" = some (.ref aA)
  gCB : mg "check_both" = some (.ref aB)
  nI : mg "isinstance" = none
  nL : mg "list" = none
  nT : mg "tuple" = none
  nS : mg "str" = none
  nE : mg "enumerate" = none
section
variable {P : Program} {w : World} {K : PySem.W.Frag} {mg : Str → Option Value} {base : Heap} {aF aL aO aK aA aB : Addr} {fd : FuncData}
theorem ok_ckK (C : Chk K mg aF aL aO aK aA aB) (F : Fun K "check_known" "check_known" sCkK aK fd) : FnOk P w K mg base CX0 3 aK fd ["names", "known"] (spFirst K) := by
  obtain ⟨fdF, FF⟩ := C.F
  obtain ⟨fdL, FL⟩ := C.L
  obtain ⟨fdO, FO⟩ := C.O
  have G : FnOk P w K mg base CX0 2 aF fdF ["names", "things"] (spFirst K) := ok_first FF FL C.gL FO C.gO C.nI C.nL C.nT C.nS C.nE
  have b := FF.binds (ps := ["names", "things"]) fun _ _ _ _ _ _ us hl => match us, hl with | [_, _], _ => rfl
  refine F.ok scCkK (fun vs H Q E h => by obtain ⟨c, a, ns, known, e, _⟩ := h; rw [e]; rfl) fun cdv A outer s H vs Q E hr hsp => ?_
  obtain ⟨c, a, ns, known, rfl, hc, hS, nd1, sub, short, hq⟩ := hsp
  have nd := scCkK.nd
  refine ⟨_, pss_cons (ps_set (i := 2) nd rfl (Or.inl rfl) (pe_call G hr rfl C.gF FF.kp b .nil pass0 (pa_cons (pv 0) (pa_cons (pv 1) pa_nil))))
    (pss_one (ps_if (pt_cmp (pc_notN (pv 2))) (pss_one ps_never) pss_nil)), ?_⟩
  refine ⟨_, rfl, _, rfl, c, a, ns, known, rfl, hc, hS, nd1, sub, short, fun H1 k1 => ?_⟩
  exact ⟨_, rfl, _, rfl, iteF (hq H1 k1)⟩
theorem ok_ckA (C : Chk K mg aF aL aO aK aA aB) (F : Fun K "check_asked" "check_asked" sCkA aA fd) : FnOk P w K mg base CX0 2 aA fd ["names", "asked"] (spCkA K) := by
  obtain ⟨fdO, FO⟩ := C.O
  have G : FnOk P w K mg base CX0 1 aO fdO ["names", "thing"] (spIsOne K) := ok_isOne FO C.nI C.nS
  have b := FO.binds (ps := ["names", "thing"]) fun _ _ _ _ _ _ us hl => match us, hl with | [_, _], _ => rfl
  refine F.ok scCkA (fun vs H Q E h => by obtain ⟨c, ns, x, e, _⟩ := h; rw [e]; rfl) fun cdv A outer s H vs Q E hr hsp => ?_
  obtain ⟨c, ns, x, rfl, hc, xin, hq⟩ := hsp
  refine ⟨_, pss_one (ps_if (pt_not (pt_val (pe_call G hr rfl C.gO FO.kp b .nil pass0 (pa_cons (pv 0) (pa_cons (pv 1) pa_nil))))) (pss_one ps_never) pss_nil), ?_⟩
  refine ⟨_, rfl, _, rfl, c, ns, x, rfl, hc, _, rfl, ?_⟩
  rw [decide_eq_true xin]
  exact iteF hq
theorem ok_ckB (C : Chk K mg aF aL aO aK aA aB) (F : Fun K "check_both" "check_both" sCkB aB fd) : FnOk P w K mg base CX0 4 aB fd ["names", "known", "asked"] (spCkB K) := by
  obtain ⟨fdK, FK⟩ := C.CK
  obtain ⟨fdA, FA⟩ := C.CA
  have GK := ok_ckK (P := P) (w := w) (base := base) C FK
  have bK := FK.binds (ps := ["names", "known"]) fun _ _ _ _ _ _ us hl => match us, hl with | [_, _], _ => rfl
  have GA := ok_ckA (P := P) (w := w) (base := base) C FA
  have bA := FA.binds (ps := ["names", "asked"]) fun _ _ _ _ _ _ us hl => match us, hl with | [_, _], _ => rfl
  refine F.ok scCkB (fun vs H Q E h => by obtain ⟨c, a, ns, known, x, e, _⟩ := h; rw [e]; rfl) fun cdv A outer s H vs Q E hr hsp => ?_
  obtain ⟨c, a, ns, known, x, rfl, hc, hS, nd1, sub, short, xin, hq⟩ := hsp
  refine ⟨_, pss_cons (ps_expr (pe_call GK hr rfl C.gCK FK.kp bK .nil pass0 (pa_cons (pv 0) (pa_cons (pv 1) pa_nil))))
    (pss_one (ps_expr (pe_call GA (hr.mono (by decide)) rfl C.gCA FA.kp bA .nil pass0 (pa_cons (pv 0) (pa_cons (pv 2) pa_nil))))), ?_⟩
  refine ⟨_, rfl, _, rfl, c, a, ns, known, rfl, hc, hS, nd1, sub, short, fun H1 k1 => ?_⟩
  exact ⟨_, rfl, _, rfl, c, ns, x, rfl, SqL.of (k1 _ _ hc), xin, hq H1 k1⟩
end
end L2.TB
namespace L2.TB
open PySem PySem.Spec PyProof.Rows
/-! what is walked is a list or a tuple -/
def iSeq (K : PySem.W.Frag) (tl : TE) : TI := fun σ H R => tl σ H fun x H1 => ∃ a xs, x = .ref a ∧ ((SqL K H1 a xs ∧ R (Itl K a) H1) ∨ (SqT K H1 a xs ∧ R (Itt K a) H1))
theorem pi_seq {X : Cx} {tg l : Expr} {tl : TE} (hl : PE X l tl) : PI X tg l (iSeq X.K tl) := by
  refine PI.mk fun pins z σ H R I reading => thn (hl.run pins z σ H _ I reading) fun v z1 ⟨x, H1, I1, rel, a, xs, ex, both⟩ => ?_
  subst ex
  obtain rfl : v = Value.ref a := rel
  have one : ∀ (o : Obj), FpOk X pins H1 z1.heap.objs.size := fun _ => I1.fpOk (Nat.le_refl _) (I1.hok.fresh (Nat.le_refl _))
  have fresh : ∀ b ∈ [z1.heap.objs.size], FpOk X pins H1 b := fun b hb => by
    obtain rfl := List.mem_singleton.mp hb
    exact I1.fpOk (Nat.le_refl _) (I1.hok.fresh (Nat.le_refl _))
  rcases both with ⟨sq, q⟩ | ⟨sq, q⟩
  · obtain ⟨its, rv, isL, _⟩ := I1.list sq
    exact wpAny_pyIter_list isL.isList ⟨_, _, _, _, H1, rfl, I1.kept (t' := z1.toks) (fun b o e => Heap.get?_push_of_some _ e), turn_list a _, ⟨_, Heap.get?_push_size _ rfl, rfl, rfl⟩, fresh, q⟩
  · obtain ⟨its, rv, isT, _⟩ := I1.tuple sq
    exact wpAny_pyIter_tuple (show z1.heap.IsTuple a its.toArray from isT) ⟨_, _, _, _, H1, rfl, I1.kept (t' := z1.toks) (fun b o e => Heap.get?_push_of_some _ e), turn_tuple a _, ⟨_, Heap.get?_push_size _ rfl, rfl, rfl⟩, fresh, q⟩
/-- a for loop over it -/
theorem for_seq {K : PySem.W.Frag} {a : Addr} {xs : List V} {o : HO} {g : TG} {tb : TS} {D : Ends} {σ : St} {H : Hp} (ko : o = .lst xs ∨ o = .tup xs) (Pv : Nat → St → Hp → Prop) (h0 : Pv 0 σ H) (hl : ∀ i σ H, i ≤ xs.length → Pv i σ H → H a = some o)
    (hs : ∀ i x σ H, xs[i]? = some x → Pv i σ H → g x σ H fun σ2 H2 => tb { D with nx := Pv (i + 1), ct := Pv (i + 1), bk := D.nx } σ2 H2) (hd : ∀ σ H, Pv xs.length σ H → D.nx σ H) :
    ∃ b ys, V.ref a = V.ref b ∧ ((SqL K H b ys ∧ ForW (Itl K b) g tb D σ H) ∨ (SqT K H b ys ∧ ForW (Itt K b) g tb D σ H)) := by
  have q0 := hl 0 σ H (Nat.zero_le _) h0
  rcases ko with rfl | rfl
  · exact ⟨a, xs, rfl, .inl ⟨SqL.of q0, for_list Pv h0 (fun i σ H le p => SqL.of (hl i σ H le p)) hs hd⟩⟩
  · exact ⟨a, xs, rfl, .inr ⟨SqT.of q0, for_tup Pv h0 (fun i σ H le p => SqT.of (hl i σ H le p)) hs hd⟩⟩
/-- what a list comprehension asks of its turns -/
def LcW (J : It) (g : TG) (tt : TT) (te : TE) (vs : List Nat) (σ : St) (H1 : Hp) (Q : Addr → Hp → Prop) : Prop := ∀ D, H1 D = none → ∃ W : Nat → Nat → Hp → Prop, (∃ m, W 0 m (upd H1 D (.lst []))) ∧ ∀ i m H, W i m H →
  (J.stop i H ∧ Q D H) ∨ (J.go i H ∧ ∃ Nx : Hp → Prop, (∀ H', Nx H' → ∃ m', m' < m ∧ W (i + 1) m' H') ∧ ∀ x H', J.yld i H x H' → g x (wipe σ vs) H' fun σ2 H2 => wipe σ2 vs = wipe σ vs ∧ tt σ2 H2 fun b H3 =>
    if b = true then te σ2 H3 fun y H4 => ∃ acc, H4 D = some (.lst acc) ∧ acc.length < sizeLine ∧ Nx (upd H4 D (.lst (acc ++ [y]))) else Nx H3)
/-- a turn of a comprehension: keep tells whether x is kept, fv x is what is made of it; nothing that was there is changed -/
def LcTurn (g : TG) (tt : TT) (te : TE) (vs : List Nat) (σ : St) (xs : List V) (keep : V → Bool) (fv : V → V) (H1 : Hp) : Prop :=
  ∀ (i : Nat) (x : V) (H : Hp) (C : V → Hp → Prop) (N : Hp → Prop), xs[i]? = some x → Same H1 H → (keep x = true → ∀ H4, Same H H4 → C (fv x) H4) → (keep x = false → ∀ H4, Same H H4 → N H4) →
    g x (wipe σ vs) H fun σ2 H2 => wipe σ2 vs = wipe σ vs ∧ tt σ2 H2 fun b H3 => if b = true then te σ2 H3 C else N H3
theorem filter_snoc (keep : V → Bool) (fv : V → V) {xs : List V} {i : Nat} {x : V} (ex : xs[i]? = some x) :
    ((xs.take (i + 1)).filter keep).map fv = ((xs.take i).filter keep).map fv ++ (if keep x = true then [fv x] else []) := by
  have e1 : xs.take (i + 1) = xs.take i ++ [x] := by rw [List.take_succ, ex]; rfl
  rw [e1, List.filter_append, List.map_append]
  congr 1
  cases h : keep x <;> simp [h]
theorem lc_seq {K : PySem.W.Frag} {a : Addr} {xs : List V} {o : HO} {g : TG} {tt : TT} {te : TE} {vs : List Nat} {σ : St} {H1 : Hp} {Q : Addr → Hp → Prop} (ko : o = .lst xs ∨ o = .tup xs) (ho : H1 a = some o) (short : xs.length < 1000000) (keep : V → Bool) (fv : V → V)
    (turn : LcTurn g tt te vs σ xs keep fv H1) (fin : ∀ H D, H1 D = none → H D = some (.lst ((xs.filter keep).map fv)) → Same H1 H → Q D H) :
    ∃ b ys, V.ref a = V.ref b ∧ ((SqL K H1 b ys ∧ LcW (Itl K b) g tt te vs σ H1 Q) ∨ (SqT K H1 b ys ∧ LcW (Itt K b) g tt te vs σ H1 Q)) := by
  have go : ∀ D, H1 D = none → ∀ (i : Nat) (x : V) (H : Hp), xs[i]? = some x → (H D = some (.lst (((xs.take i).filter keep).map fv)) ∧ Same H1 H) → g x (wipe σ vs) H fun σ2 H2 => wipe σ2 vs = wipe σ vs ∧ tt σ2 H2 fun b H3 =>
      if b = true then te σ2 H3 fun y H4 => ∃ acc, H4 D = some (.lst acc) ∧ acc.length < sizeLine ∧ ((upd H4 D (.lst (acc ++ [y]))) D = some (.lst (((xs.take (i + 1)).filter keep).map fv)) ∧ Same H1 (upd H4 D (.lst (acc ++ [y])))) else (H3 D = some (.lst (((xs.take (i + 1)).filter keep).map fv)) ∧ Same H1 H3) := by
    rintro D nD i x H ex ⟨oD, s1⟩
    refine turn i x H _ _ ex s1 (fun k H4 s4 => ⟨_, s4 _ _ oD, ?_, ?_, ?_⟩) (fun k H4 s4 => ⟨?_, s1.trans s4⟩)
    · rw [sizeLine_eq, List.length_map]
      have := List.length_filter_le keep (xs.take i)
      rw [List.length_take] at this
      omega
    · rw [upd_same, filter_snoc keep fv ex, if_pos k]
    · intro b u e
      have nb : b ≠ D := ne_of_none e nD
      rw [upd_ne nb]
      exact s4 _ _ (s1 _ _ e)
    · rw [filter_snoc keep fv ex, k]
      simpa using s4 _ _ oD
  have all : xs.take xs.length = xs := List.take_length
  rcases ko with rfl | rfl
  · exact ⟨a, xs, rfl, .inl ⟨SqL.of ho, fun D nD => lc_list (xs := xs) (fun i H => H D = some (.lst (((xs.take i).filter keep).map fv)) ∧ Same H1 H) ⟨upd_same, same_new nD⟩ (fun i H _ p => SqL.of (p.2 _ _ ho)) (fun i x H ex p => go D nD i x H ex p)
      (fun H p => fin H D nD (by rw [all] at p; exact p.1) p.2)⟩⟩
  · exact ⟨a, xs, rfl, .inr ⟨SqT.of ho, fun D nD => lc_tup (xs := xs) (fun i H => H D = some (.lst (((xs.take i).filter keep).map fv)) ∧ Same H1 H) ⟨upd_same, same_new nD⟩ (fun i H _ p => SqT.of (p.2 _ _ ho)) (fun i x H ex p => go D nD i x H ex p)
      (fun H p => fin H D nD (by rw [all] at p; exact p.1) p.2)⟩⟩
end L2.TB
namespace L2.TB
open PySem PySem.Spec PyProof.Rows
/-! the table and its methods -/
def tabF (qa ra : Addr) : List (Str × V) := [("_questions", .ref qa), ("_rows", .ref ra)]
theorem tabF_q (qa ra : Addr) : (tabF qa ra).lookup ("_questions" : Str) = some (V.ref qa) := rfl
theorem tabF_r (qa ra : Addr) : (tabF qa ra).lookup ("_rows" : Str) = some (V.ref ra) := rfl
/-- the rows of the list at ra -/
def TRows (H : Hp) (ra : Addr) (n : Nat) (tbl : List (List Int)) : Prop := ∃ ps : List Addr, H ra = some (.lst (ps.map V.ref)) ∧ Paired (fun p vs => H p = some (.tup (vs.map V.int)) ∧ vs.length = n) ps tbl
structure TabAt (H : Hp) (C a : Addr) (ns : List Str) (tbl : List (List Int)) : Prop where
  ex : ∃ dx qa ra, H a = some (.ins C dx (tabF qa ra)) ∧ H qa = some (.lst (ns.map V.str)) ∧ TRows H ra ns.length tbl
theorem TRows.same {H H' : Hp} {ra : Addr} {n : Nat} {tbl : List (List Int)} (t : TRows H ra n tbl) (s : Same H H') : TRows H' ra n tbl := by
  obtain ⟨ps, o, r⟩ := t
  exact ⟨ps, s _ _ o, Paired.mapP r fun p vs h => ⟨s _ _ h.1, h.2⟩⟩
theorem TabAt.same {H H' : Hp} {C a : Addr} {ns : List Str} {tbl : List (List Int)} (t : TabAt H C a ns tbl) (s : Same H H') : TabAt H' C a ns tbl := by
  obtain ⟨dx, qa, ra, h1, h2, h3⟩ := t.ex
  exact ⟨dx, qa, ra, s _ _ h1, s _ _ h2, h3.same s⟩
structure TabC (K : PySem.W.Frag) (C : Addr) : Prop where
  cl : Cls K C
  nQ : NoAttr K C "_questions"
  nR : NoAttr K C "_rows"
def spQs (K : PySem.W.Frag) (C : Addr) : Sp := fun vs H Q _ => ∃ (a : Addr) (ns : List Str) (tbl : List (List Int)), vs = [.ref a] ∧ TabAt H C a ns tbl ∧ ∀ H' q, H q = none → H' q = some (.lst (ns.map V.str)) → Same H H' → Q (.ref q) H'
def idx (ns : List Str) (x : Str) : Nat := ns.idxOf x
def spPlaces (K : PySem.W.Frag) (C : Addr) : Sp := fun vs H Q _ => ∃ (a b : Addr) (ns known : List Str) (tbl : List (List Int)), vs = [.ref a, .ref b] ∧ TabAt H C a ns tbl ∧ SqA K H b (known.map V.str) ∧ (∀ x ∈ known, x ∈ ns) ∧ known.length < 1000 ∧
  ∀ H' q, H q = none → H' q = some (.lst (known.map fun x => V.int (idx ns x : Nat))) → Same H H' → Q (.ref q) H'
theorem scQs : FnScope ["self"] ["self"] (defScope sQs) := ⟨rfl, rfl, rfl, by decide +kernel, rfl, by decide +kernel, by decide +kernel⟩
abbrev NP : List Str := ["self", "names", "name"]
theorem scPlaces : FnScope NP ["self", "names"] (defScope sPlaces) := ⟨rfl, rfl, rfl, by decide +kernel, rfl, by decide +kernel, by decide +kernel⟩
theorem idx_at {ns : List Str} {x : Str} (h : x ∈ ns) : (ns.map V.str)[idx ns x]? = some (.str x) ∧ ∀ (m : Nat) (z : V), m < idx ns x → (ns.map V.str)[m]? = some z → eqV z (.str x) = false := by
  have lt : idx ns x < ns.length := List.idxOf_lt_length_of_mem h
  refine ⟨?_, fun m z lm ez => ?_⟩
  · rw [List.getElem?_map, List.getElem?_eq_getElem lt]
    have e : ns[idx ns x] = x := List.getElem_idxOf lt
    rw [e]; rfl
  · rw [List.getElem?_map] at ez
    obtain ⟨y, ey, rfl⟩ := Option.map_eq_some_iff.mp ez
    rw [str_inj]
    refine decide_eq_false fun q => ?_
    subst q
    have : idx ns y ≤ m := by
      obtain ⟨hm, em⟩ := List.getElem?_eq_some_iff.mp ey
      by_cases c : m < idx ns y
      · have z := List.not_of_lt_findIdx (p := fun a => a == y) (xs := ns) (i := m) c
        rw [em] at z
        simp at z
      · omega
    omega
section
variable {P : Program} {w : World} {K : PySem.W.Frag} {mg : Str → Option Value} {base : Heap} {f C : Addr} {fd : FuncData}
theorem ok_qs (F : Fun K "questions" "Table.questions" sQs f fd) (T : TabC K C) (gL : mg "list" = none) : FnOk P w K mg base CX0 1 f fd ["self"] (spQs K C) := by
  refine F.ok scQs (fun vs H Q E h => by obtain ⟨a, ns, tbl, e, _⟩ := h; rw [e]; rfl) fun cdv A outer s H vs Q E hr hsp => ?_
  obtain ⟨a, ns, tbl, rfl, ⟨dx, qa, ra, ha, hqa, hra⟩, hq⟩ := hsp
  refine ⟨_, pss_one (ps_ret (pe_callTy call_list_of rfl gL (by decide +kernel) (pa_cons (pe_fld (pv 0) rfl) pa_nil))), ?_⟩
  exact ⟨_, rfl, _, _, _, _, _, rfl, ha, T.cl, T.nQ, tabF_q _ _, _, _, rfl, .inl (SqL.of hqa), fun q nq => hq _ q nq upd_same (same_new nq)⟩
theorem ok_places (F : Fun K "_places" "Table._places" sPlaces f fd) (T : TabC K C) : FnOk P w K mg base CX0 1 f fd ["self", "names"] (spPlaces K C) := by
  refine F.ok scPlaces (fun vs H Q E h => by obtain ⟨a, b, ns, known, tbl, e, _⟩ := h; rw [e]; rfl) fun cdv A outer s H vs Q E hr hsp => ?_
  obtain ⟨a, b, ns, known, tbl, rfl, ⟨dx, qa, ra, ha, hqa, hra⟩, hb, sub, short, hq⟩ := hsp
  have nd := scPlaces.nd
  refine ⟨_, pss_one (ps_ret (pe_lc (own := [("name", 2)]) (tt := tYes) (te := tBM K "list" (rIndex K) (tFld K (tVar 0) "_questions") (tCons (tVar 2) tNil)) rfl nd (pi_seq (pv 1)) (blkOk_by (N := NP) (sc := defScope sPlaces) (by decide +kernel))
    (fun _ _ _ _ _ => pg_name (i := 2) nd rfl (Or.inl rfl)) (fun _ _ _ _ _ => pts_nil) (fun _ _ _ _ _ => pe_bm PySem.F.plainAttrs_list PySem.F.slot_list_index PySem.F.type_list_index mt_index (pe_fld (pv 0) rfl) (pa_cons (pv 2) pa_nil)))), ?_⟩
  obtain ⟨o, ho, ko⟩ : ∃ o, H b = some o ∧ (o = .lst (known.map V.str) ∨ o = .tup (known.map V.str)) := by
    rcases hb with e | e
    · exact ⟨_, e, .inl rfl⟩
    · exact ⟨_, e, .inr rfl⟩
  refine ⟨_, rfl, lc_seq ko ho (by rw [List.length_map]; omega) (fun _ => true) (fun v => match v with | .str x => .int (idx ns x : Nat) | _ => .non) ?_ ?_⟩
  · rintro i v H2 D N ev s2 yes no
    rw [List.getElem?_map] at ev
    obtain ⟨x, ex, rfl⟩ := Option.map_eq_some_iff.mp ev
    have xin : x ∈ ns := sub x (List.mem_of_getElem? ex)
    obtain ⟨i1, i2⟩ := idx_at xin
    refine ⟨rfl, ?_⟩
    refine ⟨_, rfl, _, _, _, _, _, rfl, s2 _ _ ha, T.cl, T.nQ, tabF_q _ _, .inl ⟨rfl, _, SqL.of (s2 _ _ hqa)⟩, _, rfl, ?_⟩
    exact ⟨qa, _, .str x, idx ns x, .str x, rfl, rfl, SqL.of (s2 _ _ hqa), rfl, flat_strs ns, i1, by rw [str_inj]; simp, i2, yes rfl H2 (Same.refl _)⟩
  · intro H2 q nq oq s2
    refine hq H2 q nq ?_ s2
    rw [oq, List.filter_eq_self.mpr (fun _ _ => rfl), List.map_map]
    rfl
end
end L2.TB
namespace L2.TB
open PySem PySem.Spec PyProof.Rows
/-! two rows that part -/
/-- the answer of a row -/
def av (ns : List Str) (vs : List Int) (x : Str) : Int := vs.getD (idx ns x) 0
def keyR (ns known : List Str) (vs : List Int) : List Int := known.map (av ns vs)
def keyK (ks : List Int) : List Key := ks.map Sum.inl
theorem keyK_kV (ks : List Int) : (keyK ks).map kV = ks.map V.int := by
  unfold keyK; rw [List.map_map]; rfl
theorem keyK_inj {a b : List Int} (h : keyK a = keyK b) : a = b := by
  unfold keyK at h
  exact (List.map_inj_right (fun x y e => Sum.inl.inj e)).mp h
/-- known tells asked, over these rows -/
def Tells (ns : List Str) (tbl : List (List Int)) (known : List Str) (x : Str) : Prop := ∀ u ∈ tbl, ∀ v ∈ tbl, keyR ns known u = keyR ns known v → av ns u x = av ns v x
instance (ns tbl known x) : Decidable (Tells ns tbl known x) := by unfold Tells; exact inferInstance
def spParting (K : PySem.W.Frag) (C : Addr) : Sp := fun vs H Q _ => ∃ (a b : Addr) (ns known : List Str) (x : Str) (tbl : List (List Int)), vs = [.ref a, .ref b, .str x] ∧ TabAt H C a ns tbl ∧ SqA K H b (known.map V.str) ∧ (∀ x ∈ known, x ∈ ns) ∧ known.length < 1000 ∧ x ∈ ns ∧ tbl.length < 1000 ∧
  (Tells ns tbl known x → ∀ H', Same H H' → Q .non H') ∧
  (¬ Tells ns tbl known x → ∀ H' t p q u v, H t = none → H' t = some (.tup [.ref p, .ref q]) → u ∈ tbl → v ∈ tbl → H' p = some (.tup (u.map V.int)) → H' q = some (.tup (v.map V.int)) → keyR ns known u = keyR ns known v → av ns u x ≠ av ns v x → Same H H' → Q (.ref t) H')
abbrev NPa : List Str := ["self", "known", "asked", "places", "place", "first", "row", "key", "k"]
theorem scParting : FnScope NPa ["self", "known", "asked"] (defScope sParting) := ⟨rfl, rfl, rfl, by decide +kernel, rfl, by decide +kernel, by decide +kernel⟩
/-- what the dict of first rows knows behind i rows -/
structure First (ns known : List Str) (x : Str) (ps : List Addr) (tbl : List (List Int)) (i : Nat) (kvs : List (List Key × V)) : Prop where
  has : ∀ (j : Nat) (v : List Int), j < i → tbl[j]? = some v → ∃ (j0 : Nat) (u : List Int), tbl[j0]? = some u ∧ ∃ p : Addr, ps[j0]? = some p ∧ valV kvs (keyK (keyR ns known v)) = some (.ref p) ∧ keyR ns known u = keyR ns known v ∧ av ns u x = av ns v x
  from_ : ∀ (k : List Key) (y : V), valV kvs k = some y → ∃ (j : Nat) (u : List Int) (p : Addr), tbl[j]? = some u ∧ ps[j]? = some p ∧ y = .ref p ∧ k = keyK (keyR ns known u)
  len : kvs.length ≤ i
theorem av_at {ns : List Str} {vs : List Int} {x : Str} (h : x ∈ ns) (hl : vs.length = ns.length) : atI (vs.map V.int) ((idx ns x : Nat) : Int) = some (.int (av ns vs x)) := by
  have lt : idx ns x < ns.length := List.idxOf_lt_length_of_mem h
  refine atI_nat ?_
  rw [List.getElem?_map, List.getElem?_eq_getElem (by omega)]
  unfold av
  rw [List.getD_eq_getElem?_getD, List.getElem?_eq_getElem (by omega)]
  rfl
theorem paired_get {α β : Type} {F : α → β → Prop} {as : List α} {bs : List β} (p : Paired F as bs) : ∀ {i : Nat} {a : α}, as[i]? = some a → ∃ b, bs[i]? = some b ∧ F a b := by
  induction p with
  | nil => intro i a h; simp at h
  | cons h t ih =>
    intro i a e
    cases i with
    | zero =>
      obtain rfl := Option.some.inj e
      exact ⟨_, rfl, h⟩
    | succ i => exact ih (i := i) e
section
variable {P : Program} {w : World} {K : PySem.W.Frag} {mg : Str → Option Value} {base : Heap} {f C fP : Addr} {fd fdP : FuncData}
theorem ok_parting (F : Fun K "_parting_rows" "Table._parting_rows" sParting f fd) (FP : Fun K "_places" "Table._places" sPlaces fP fdP) (mP : Meth K C "_places" fP) (T : TabC K C) (gT : mg "tuple" = none) : FnOk P w K mg base CX0 2 f fd ["self", "known", "asked"] (spParting K C) := by
  have G : FnOk P w K mg base CX0 1 fP fdP ["self", "names"] (spPlaces K C) := ok_places FP T
  have b := FP.binds (ps := ["self", "names"]) fun _ _ _ _ _ _ us hl => match us, hl with | [_, _], _ => rfl
  refine F.ok scParting (fun vs H Q E h => by obtain ⟨a, b, ns, known, x, tbl, e, _⟩ := h; rw [e]; rfl) fun cdv A outer s H vs Q E hr hsp => ?_
  obtain ⟨a, bk, ns, known, x, tbl, rfl, hT, hb, sub, short, xin, shortT, yes, no⟩ := hsp
  have nd := scParting.nd
  have hu := hu_of hr
  refine ⟨_, pss_cons (ps_set (i := 3) nd rfl (Or.inl rfl) (pe_meth (pv 0) T.cl mP G hr b .nil pass0 (pa_cons (pv 1) pa_nil)))
    (pss_cons (ps_set (i := 4) nd rfl (Or.inl rfl) (pe_bm PySem.F.plainAttrs_list PySem.F.slot_list_index PySem.F.type_list_index mt_index (pe_fld (pv 0) rfl) (pa_cons (pv 2) pa_nil)))
    (pss_cons (ps_set (i := 5) nd rfl (Or.inl rfl) pe_dnewT)
    (pss_cons (ps_for PassesOwn.never rfl (pi_seq (pe_fld (pv 0) rfl)) (pg_name (i := 6) nd rfl (Or.inr rfl))
      (pss_cons (ps_set (i := 7) nd rfl (Or.inl rfl) (pe_callTy call_tuple_of rfl gT boot_tuple' (pa_cons (pe_lc (own := [("k", 8)]) (tt := tYes) rfl nd (pi_seq (pv 3)) (blkOk_by (N := NPa) (sc := defScope sParting) (by decide +kernel))
          (fun _ _ _ _ _ => pg_name (i := 8) nd rfl (Or.inl rfl)) (fun _ _ _ _ _ => pts_nil) (fun _ _ _ _ _ => pe_ix (r := rIxT K) ix_tup (pv 6) (pv 8) (fun _ _ => rfl))) pa_nil)))
      (pss_one (ps_if (pt_cmp (pc_dnotin hu (pv 7) (pv 5))) (pss_one (ps_dput hu (pv 5) (pv 7) (pv 6) rfl))
        (pss_one (ps_if (pt_cmpR op_ne (pe_ix ix_tup (pe_dget hu (pv 5) (pv 7) (fun _ _ => rfl)) (pv 4) (fun _ _ => rfl)) (pe_ix ix_tup (pv 6) (pv 4) (fun _ _ => rfl)) (nomark _))
          (pss_one (ps_ret (pe_tup (pa_cons (pe_dget hu (pv 5) (pv 7) (fun _ _ => rfl)) (pa_cons (pv 6) pa_nil))))) pss_nil))))))
    (pss_one (ps_ret pe_non))))), ?_⟩
  obtain ⟨dx, qa, ra, ha, hqa, hra⟩ := hT.ex
  refine ⟨_, rfl, a, dx, _, rfl, ha, rfl, _, rfl, a, bk, ns, known, tbl, rfl, hT, hb, sub, short, fun H1 pl npl opl s1 => ?_⟩
  obtain ⟨i1, i2⟩ := idx_at xin
  refine ⟨_, rfl, _, _, _, _, _, rfl, s1 _ _ ha, T.cl, T.nQ, tabF_q _ _, .inl ⟨rfl, _, SqL.of (s1 _ _ hqa)⟩, _, rfl, qa, _, .str x, idx ns x, .str x, rfl, rfl, SqL.of (s1 _ _ hqa), rfl, flat_strs ns, i1, by rw [str_inj]; simp, i2, ?_⟩
  intro d nd1
  have sd := same_new (o := .dT []) nd1
  obtain ⟨ps, ora, prs⟩ := hra.same s1
  have lps : ps.length = tbl.length := Paired.length prs
  refine ⟨_, rfl, _, _, _, _, _, rfl, sd _ _ (s1 _ _ ha), T.cl, T.nR, tabF_r _ _, for_seq (.inl rfl) (fun i σ H' => H' ra = some (.lst (ps.map V.ref)) ∧ Same H1 H' ∧ ∃ kvs s6 s7 s8, σ = [some (.ref a), some (.ref bk), some (.str x), some (.ref pl), some (.int (idx ns x : Nat)), some (.ref d), s6, s7, s8] ∧ H' d = some (.dT kvs) ∧ First ns known x ps tbl i kvs)
    ⟨sd _ _ ora, sd, [], _, _, _, rfl, upd_same, ⟨fun j v z => absurd z (Nat.not_lt_zero _), fun k y e => by simp [valV] at e, Nat.zero_le _⟩⟩ (fun i σ H' _ h => h.1) ?_ ?_⟩
  · rintro i vp σ H2 evp ⟨ora2, s2, kvs, s6, s7, s8, rfl, od, FS⟩
    rw [List.getElem?_map] at evp
    obtain ⟨p, ep, rfl⟩ := Option.map_eq_some_iff.mp evp
    obtain ⟨v, ev, op, lv⟩ := paired_get prs ep
    have op2 := s2 _ _ op
    have vin : v ∈ tbl := List.mem_of_getElem? ev
    have hi : i < tbl.length := (List.getElem?_eq_some_iff.mp ev).1
    -- the key
    refine ⟨_, rfl, lc_seq (.inl rfl) (s2 _ _ opl) (by rw [List.length_map]; omega) (fun _ => true) (fun y => match y with | .int n => .int (v.getD n.toNat 0) | _ => .non) ?_ ?_⟩
    · rintro j y H3 Cn Nn ey s3 yes3 no3
      rw [List.getElem?_map] at ey
      obtain ⟨z, ez, rfl⟩ := Option.map_eq_some_iff.mp ey
      have zin : z ∈ ns := sub z (List.mem_of_getElem? ez)
      refine ⟨rfl, ?_⟩
      exact ⟨_, rfl, _, rfl, p, _, _, _, rfl, rfl, SqT.of (s3 _ _ op2), av_at zin lv, yes3 rfl H3 (Same.refl _)⟩
    · intro H3 l nl ol s3
      have ekey : ((known.map fun x => V.int (idx ns x : Nat)).filter fun _ => true).map (fun y => match y with | V.int n => V.int (v.getD n.toNat 0) | _ => V.non) = (keyK (keyR ns known v)).map kV := by
        rw [keyK_kV, List.filter_eq_self.mpr (fun _ _ => rfl), List.map_map]
        unfold keyR
        rw [List.map_map]
        rfl
      rw [ekey] at ol
      refine ⟨l, _, rfl, .inl ⟨SqL.of ol, fun kt nkt => ?_⟩⟩
      have sk := same_new (o := .tup ((keyK (keyR ns known v)).map kV)) nkt
      have ok3 : upd H3 kt (.tup ((keyK (keyR ns known v)).map kV)) kt = some (.tup ((keyK (keyR ns known v)).map kV)) := upd_same
      generalize upd H3 kt (.tup ((keyK (keyR ns known v)).map kV)) = H4 at sk ok3
      have s24 := s3.trans sk
      have od4 := s24 _ _ od
      have op4 := s24 _ _ op2
      have ndk : ∀ {u o}, H1 u = some o → u ≠ d := fun e => ne_of_none e nd1
      refine ⟨_, rfl, _, rfl, d, _, rfl, DGet.t od4 ok3, _, rfl, ?_⟩
      cases ek : valV kvs (keyK (keyR ns known v)) with
      | none =>
        refine iteT ?_
        refine ⟨_, rfl, _, rfl, _, rfl, d, _, rfl, DPut.t od4 ok3 (by rw [sizeLine_eq]; have := FS.len; omega), ?_, ?_, putK kvs (keyK (keyR ns known v)) (.ref p), _, _, _, rfl, upd_same, ?_⟩
        · rw [upd_ne (ndk ora)]; exact s24 _ _ ora2
        · intro b' u' e
          rw [upd_ne (ndk e)]; exact s24 _ _ (s2 _ _ e)
        · refine ⟨fun j v' hj ev' => ?_, fun k y e => ?_, ?_⟩
          · by_cases hji : j = i
            · subst hji
              rw [ev] at ev'
              obtain rfl := Option.some.inj ev'
              exact ⟨j, v, ev, p, ep, by rw [valV_put, if_pos rfl], rfl, rfl⟩
            · obtain ⟨j0, u, eu, p0, ep0, e0, k0, a0⟩ := FS.has j v' (by omega) ev'
              refine ⟨j0, u, eu, p0, ep0, ?_, k0, a0⟩
              rw [valV_put, if_neg, e0]
              intro z
              rw [z, ek] at e0; cases e0
          · rw [valV_put] at e
            by_cases hk : k = keyK (keyR ns known v)
            · rw [if_pos hk] at e
              obtain rfl := Option.some.inj e
              exact ⟨i, v, p, ev, ep, rfl, hk⟩
            · rw [if_neg hk] at e
              exact FS.from_ k y e
          · rw [putK_new _ ek, List.length_append]
            have := FS.len
            show kvs.length + 1 ≤ _
            omega
      | some y =>
        refine iteF ?_
        obtain ⟨j0, u, p0, eu, ep0, rfl, ek0⟩ := FS.from_ _ _ ek
        have ek1 : keyR ns known u = keyR ns known v := (keyK_inj ek0).symm
        obtain ⟨u', eu', op0, lu⟩ := paired_get prs ep0
        rw [eu] at eu'
        obtain rfl := Option.some.inj eu'
        have op04 := s24 _ _ (s2 _ _ op0)
        have uin : u ∈ tbl := List.mem_of_getElem? eu
        have dg : DGet H4 d (.ref kt) (some (.ref p0)) := ek ▸ DGet.t od4 ok3
        refine ⟨_, rfl, _, rfl, d, _, rfl, dg, _, rfl, p0, _, _, _, rfl, rfl, SqT.of op04, av_at xin lu, _, rfl, _, rfl, p, _, _, _, rfl, rfl, SqT.of op4, av_at xin lv, rfl, _, rfl, ite2 (fun e => ?_) (fun e => ?_)⟩
        · refine ⟨_, rfl, _, rfl, d, _, rfl, dg, _, rfl, (by show 2 ≤ sizeLine; decide), fun t nt => ?_⟩
          have st := same_new (o := .tup [.ref p0, .ref p]) nt
          have s14 : Same H1 H4 := s2.trans s24
          have nt0 : H t = none := (s1.trans s14).free nt
          refine no (fun T => ?_) _ t p0 p u v nt0 upd_same uin vin (st _ _ op04) (st _ _ op4) ek1 ?_ ((s1.trans s14).trans st)
          · rw [T u uin v vin ek1, decide_eq_true rfl] at e
            cases e
          · intro z
            rw [z, decide_eq_true rfl] at e
            cases e
        · refine ⟨s24 _ _ ora2, s2.trans s24, kvs, _, _, _, rfl, od4, ?_⟩
          refine ⟨fun j v' hj ev' => ?_, FS.from_, Nat.le_succ_of_le FS.len⟩
          by_cases hji : j = i
          · subst hji
            rw [ev] at ev'
            obtain rfl := Option.some.inj ev'
            refine ⟨j0, u, eu, p0, ep0, ek, ek1, ?_⟩
            by_cases z : av ns u x = av ns v x
            · exact z
            · have z2 : ¬ V.int (av ns u x) = V.int (av ns v x) := fun y => z (V.int.inj y)
              rw [decide_eq_false z2] at e
              exact absurd rfl e
          · exact FS.has j v' (by omega) ev'
  · rintro σ H2 ⟨ora2, s2, kvs, s6, s7, s8, rfl, od, FS⟩
    refine yes (fun u hu v hv e => ?_) _ (s1.trans s2)
    obtain ⟨j, hj, eu⟩ := List.getElem_of_mem hu
    obtain ⟨j', hj', ev⟩ := List.getElem_of_mem hv
    have lt : ∀ n, n < tbl.length → n < (ps.map V.ref).length := fun n h => by rw [List.length_map]; omega
    obtain ⟨j0, u0, eu0, p0, ep0, w0, k0, a0⟩ := FS.has j u (lt _ hj) (by rw [List.getElem?_eq_getElem hj, eu])
    obtain ⟨j1, u1, eu1, p1, ep1, w1, k1, a1⟩ := FS.has j' v (lt _ hj') (by rw [List.getElem?_eq_getElem hj', ev])
    rw [e, w1] at w0
    have ep : p1 = p0 := V.ref.inj (Option.some.inj w0)
    subst ep
    obtain ⟨x0, ex0, o0, _⟩ := paired_get prs ep0
    obtain ⟨x1, ex1, o1, _⟩ := paired_get prs ep1
    rw [eu0] at ex0
    rw [eu1] at ex1
    obtain rfl := Option.some.inj ex0
    obtain rfl := Option.some.inj ex1
    rw [o0] at o1
    have same : u0.map V.int = u1.map V.int := HO.tup.inj (Option.some.inj o1)
    have same2 : u0 = u1 := (List.map_inj_right (fun x y e => V.int.inj e)).mp same
    rw [← a0, ← a1, same2]
end
end L2.TB
namespace L2.TB
open PySem PySem.Spec PyProof.Rows
/-! what is told -/
/-- the places of the table's methods -/
structure TabM (K : PySem.W.Frag) (C fQ fI fPl fPr : Addr) : Prop extends TabC K C where
  Q : ∃ fd, Fun K "questions" "Table.questions" sQs fQ fd
  I : ∃ fd, Fun K "is_told" "Table.is_told" sIsTold fI fd
  L : ∃ fd, Fun K "_places" "Table._places" sPlaces fPl fd
  R : ∃ fd, Fun K "_parting_rows" "Table._parting_rows" sParting fPr fd
  mQ : Meth K C "questions" fQ
  mI : Meth K C "is_told" fI
  mL : Meth K C "_places" fPl
  mR : Meth K C "_parting_rows" fPr
/-- a table and known ones of it -/
structure Asked (K : PySem.W.Frag) (H : Hp) (C a b : Addr) (ns known : List Str) (tbl : List (List Int)) : Prop where
  t : TabAt H C a ns tbl
  k : SqA K H b (known.map V.str)
  nd : known.Nodup
  sub : ∀ x ∈ known, x ∈ ns
  s1 : ns.length < 1000
  s2 : tbl.length < 1000
  ndn : ns.Nodup
theorem Asked.short {K : PySem.W.Frag} {H : Hp} {C a b : Addr} {ns known : List Str} {tbl : List (List Int)} (h : Asked K H C a b ns known tbl) : known.length < 1000 := by
  have := List.Nodup.length_le_of_subset h.nd (fun x hx => h.sub x hx)
  have := h.s1
  omega
theorem Asked.same {K : PySem.W.Frag} {H H' : Hp} {C a b : Addr} {ns known : List Str} {tbl : List (List Int)} (h : Asked K H C a b ns known tbl) (s : Same H H') : Asked K H' C a b ns known tbl :=
  ⟨h.t.same s, h.k.same s, h.nd, h.sub, h.s1, h.s2, h.ndn⟩
def spIsTold (K : PySem.W.Frag) (C : Addr) : Sp := fun vs H Q _ => ∃ (a b : Addr) (ns known : List Str) (x : Str) (tbl : List (List Int)), vs = [.ref a, .ref b, .str x] ∧ Asked K H C a b ns known tbl ∧ x ∈ ns ∧ ∀ H', Same H H' → Q (.bl (decide (Tells ns tbl known x))) H'
def toldL (ns : List Str) (tbl : List (List Int)) (known : List Str) : List Str := ns.filter fun x => decide (Tells ns tbl known x)
theorem scIsTold : FnScope ["self", "known", "asked"] ["self", "known", "asked"] (defScope sIsTold) := ⟨rfl, rfl, rfl, by decide +kernel, rfl, by decide +kernel, by decide +kernel⟩
def isStr (f : Str → Bool) : V → Bool
  | .str x => f x
  | _ => false
theorem filter_strs (f : Str → Bool) (xs : List Str) : ((xs.map V.str).filter (isStr f)).map id = (xs.filter f).map V.str := by
  rw [List.map_id, List.filter_map]; rfl
section
variable {P : Program} {w : World} {K : PySem.W.Frag} {mg : Str → Option Value} {base : Heap} {f C fQ fI fPl fPr aF aL aO aK aA aB : Addr} {fd : FuncData}
theorem ok_isTold (F : Fun K "is_told" "Table.is_told" sIsTold f fd) (T : TabM K C fQ fI fPl fPr) (Ck : Chk K mg aF aL aO aK aA aB) : FnOk P w K mg base CX0 5 f fd ["self", "known", "asked"] (spIsTold K C) := by
  obtain ⟨fdB, FB⟩ := Ck.CB
  have GB := ok_ckB (P := P) (w := w) (base := base) Ck FB
  have bB := FB.binds (ps := ["names", "known", "asked"]) fun _ _ _ _ _ _ us hl => match us, hl with | [_, _, _], _ => rfl
  obtain ⟨fdL, FL⟩ := T.L
  obtain ⟨fdR, FR⟩ := T.R
  have GR := ok_parting (P := P) (w := w) (mg := mg) (base := base) FR FL T.mL T.toTabC Ck.nT
  have bR := FR.binds (ps := ["self", "known", "asked"]) fun _ _ _ _ _ _ us hl => match us, hl with | [_, _, _], _ => rfl
  refine F.ok scIsTold (fun vs H Q E h => by obtain ⟨a, b, ns, known, x, tbl, e, _⟩ := h; rw [e]; rfl) fun cdv A outer s H vs Q E hr hsp => ?_
  obtain ⟨a, b, ns, known, x, tbl, rfl, ask, xin, hq⟩ := hsp
  refine ⟨_, pss_cons (ps_expr (pe_call GB hr rfl Ck.gCB FB.kp bB .nil pass0 (pa_cons (pe_fld (pv 0) rfl) (pa_cons (pv 1) (pa_cons (pv 2) pa_nil)))))
    (pss_one (ps_ret (pe_cmp (pc_isN (pe_meth (pv 0) T.cl T.mR GR (hr.mono (by decide)) bR .nil pass0 (pa_cons (pv 1) (pa_cons (pv 2) pa_nil))))))), ?_⟩
  obtain ⟨dx, qa, ra, ha, hqa, hra⟩ := ask.t.ex
  refine ⟨_, rfl, _, _, _, _, _, rfl, ha, T.cl, T.nQ, tabF_q _ _, _, rfl, _, rfl, qa, b, ns, known, x, rfl, hqa, ask.k, ask.nd, ask.sub, ask.short, xin, fun H1 s1 => ?_⟩
  refine ⟨_, rfl, a, dx, _, rfl, s1 _ _ ha, rfl, _, rfl, _, rfl, a, b, ns, known, x, tbl, rfl, ask.t.same s1, ask.k.same s1, ask.sub, ask.short, xin, ask.s2, fun yes H' s' => ?_, fun no H' t p q u v _ _ _ _ _ _ _ _ s' => ?_⟩
  · have z := hq H' (s1.trans s')
    rw [decide_eq_true yes] at z
    exact z
  · have z := hq H' (s1.trans s')
    rw [decide_eq_false no] at z
    exact z
end
end L2.TB
namespace L2.TB
open PySem PySem.Spec PyProof.Rows
theorem boot_all' : bootBuiltins "all" = some (.builtin "all") := by decide +kernel
/-- a comprehension without a test over anything: ys is what it makes -/
theorem lc_gen {J : It} {g : TG} {tt : TT} {te : TE} {vs : List Nat} {σ : St} {H1 : Hp} {Q : Addr → Hp → Prop} (ys : List V) (short : ys.length < 1000000) (go : ∀ i H, Same H1 H → i < ys.length → J.go i H) (stop : ∀ H, Same H1 H → J.stop ys.length H)
    (turn : ∀ (i : Nat) (x y : V) (H H' : Hp) (C : V → Hp → Prop) (N : Hp → Prop), ys[i]? = some y → Same H1 H → J.yld i H x H' → (∀ H4, Same H H4 → C y H4) → g x (wipe σ vs) H' fun σ2 H2 => wipe σ2 vs = wipe σ vs ∧ tt σ2 H2 fun b H3 => if b = true then te σ2 H3 C else N H3)
    (fin : ∀ H D, H1 D = none → H D = some (.lst ys) → Same H1 H → Q D H) : LcW J g tt te vs σ H1 Q := by
  intro D nD
  refine ⟨fun i m H => m = ys.length - i ∧ i ≤ ys.length ∧ H D = some (.lst (ys.take i)) ∧ Same H1 H, ⟨_, rfl, Nat.zero_le _, upd_same, same_new nD⟩, ?_⟩
  rintro i m H ⟨rfl, le, oD, s1⟩
  by_cases lt : i < ys.length
  · refine .inr ⟨go i H s1 lt, fun H' => H' D = some (.lst (ys.take (i + 1))) ∧ Same H1 H', fun H' h => ⟨ys.length - (i + 1), by omega, rfl, lt, h⟩, fun x H' yl => ?_⟩
    have ey : ys[i]? = some ys[i] := List.getElem?_eq_getElem lt
    refine turn i x ys[i] H H' _ _ ey s1 yl fun H4 s4 => ⟨_, s4 _ _ oD, ?_, ?_, ?_⟩
    · rw [sizeLine_eq, List.length_take]; omega
    · rw [upd_same, List.take_succ, ey]; rfl
    · intro b u e
      rw [upd_ne (ne_of_none e nD)]
      exact s4 _ _ (s1 _ _ e)
  · obtain rfl : i = ys.length := by omega
    rw [List.take_length] at oD
    exact .inl ⟨stop H s1, fin H D nD oD s1⟩
def bools (n : Nat) : List V := List.replicate n (V.bl true)
theorem bools_map (n : Nat) : bools n = (List.replicate n true).map V.bl := by unfold bools; rw [List.map_replicate]
theorem bools_at {n i : Nat} {y : V} (h : (bools n)[i]? = some y) : y = .bl true ∧ i < n := by
  unfold bools at h
  rw [List.getElem?_replicate] at h
  split at h
  · exact ⟨(Option.some.inj h).symm, by assumption⟩
  · cases h
theorem bools_len (n : Nat) : (bools n).length = n := List.length_replicate
theorem all_true (n : Nat) : (List.replicate n true).all id = true := by simp
def spIsName : Sp := fun vs H Q _ => ∃ x : Str, vs = [.str x] ∧ NmOk x ∧ ∀ H', Same H H' → Q (.bl true) H'
abbrev NIn : List Str := ["thing", "sign"]
theorem scIsName : FnScope NIn ["thing"] (defScope sIsName) := ⟨rfl, rfl, rfl, by decide +kernel, rfl, by decide +kernel, by decide +kernel⟩
/-- a dict has just these names, all true -/
def spHasJust : Sp := fun vs H Q _ => ∃ (d c : Addr) (kvs : List (Key × V)) (ns : List Str), vs = [.ref d, .ref c] ∧ H d = some (.dK kvs) ∧ H c = some (.lst (ns.map V.str)) ∧ kvs.map (·.1) = ns.map Sum.inr ∧ ns.length < 1000 ∧ ∀ H', Same H H' → Q (.bl true) H'
abbrev NHj : List Str := ["thing", "names", "name"]
theorem scHasJust : FnScope NHj ["thing", "names"] (defScope sHasJust) := ⟨rfl, rfl, rfl, by decide +kernel, rfl, by decide +kernel, by decide +kernel⟩
section
variable {P : Program} {w : World} {K : PySem.W.Frag} {mg : Str → Option Value} {base : Heap} {f : Addr} {fd : FuncData}
theorem ok_isName (F : Fun K "is_name" "is_name" sIsName f fd) (gI : mg "isinstance" = none) (gS : mg "str" = none) (gN : mg "len" = none) (gA : mg "all" = none) (gL : ∃ t, mg "LONGEST" = some (.int 40 t)) (gSg : ∃ t, mg "SIGNS" = some (.str (Str.ofString "abcdefghijklmnopqrstuvwxyz0123456789.") t)) :
    FnOk P w K mg base CX0 1 f fd ["thing"] spIsName := by
  obtain ⟨tL, gL⟩ := gL
  obtain ⟨tS, gSg⟩ := gSg
  refine F.ok scIsName (fun vs H Q E h => by obtain ⟨x, e, _⟩ := h; rw [e]; rfl) fun cdv A outer s H vs Q E hr hsp => ?_
  obtain ⟨x, rfl, ok, hq⟩ := hsp
  obtain ⟨l1, l2, chars⟩ := ok
  have nd := scIsName.nd
  refine ⟨_, pss_cons (ps_if (PW.pt (pw_or (pt_not (pt_val (pe_callB (r := rIsi K) call_isi rfl gI boot_isi (pa_cons (pv 0) (pa_cons (pe_bltn (v := .ty "str") rfl gS boot_str' rfl) pa_nil)))))
      (pw_or1 (pt_not (pt_chain op_le op_le pe_int (pe_callB call_len_str rfl gN boot_len (pa_cons (pv 0) pa_nil)) (pe_glob (v := .int 40) rfl gL ⟨_, rfl⟩)))))) (pss_one ps_never) pss_nil)
    (pss_one (ps_ret (pe_callB (cr_all rfl) rfl gA boot_all' (pa_cons (pe_lc (own := [("sign", 1)]) (tt := tYes) rfl nd (pi_str (pv 0)) (blkOk_by (N := NIn) (sc := defScope sIsName) (by decide +kernel)) (fun _ _ _ _ _ => pg_name (i := 1) nd rfl (Or.inl rfl)) (fun _ _ _ _ _ => pts_nil)
      (fun _ _ _ _ _ => pe_cmpR op_in_sign (pv 1) (pe_glob (v := .str (Str.ofString "abcdefghijklmnopqrstuvwxyz0123456789.")) rfl gSg ⟨_, rfl⟩) rfl)) pa_nil)))), ?_⟩
  have lz : x.length = x.cps.toList.length := (Array.length_toList (xs := x.cps)).symm
  refine ⟨_, rfl, _, _, _, _, true, rfl, .ty _, .base (.str x), kit_ty (by decide +kernel), _, rfl, iteF ?_⟩
  refine ⟨_, rfl, x, rfl, (by rw [sizeLine_eq]; omega), _, _, rfl, rfl, _, rfl, ?_⟩
  rw [decide_eq_true (by omega : (1 : Int) ≤ (x.length : Nat))]
  refine iteT ⟨_, _, rfl, rfl, _, rfl, ?_⟩
  rw [decide_eq_true (by omega : ((x.length : Nat) : Int) ≤ 40)]
  refine iteF ?_
  refine ⟨_, rfl, x, rfl, lc_gen (bools x.cps.toList.length) (by rw [bools_len]; omega) (fun i H' _ lt => ?_) (fun H' _ => ?_) ?_ ?_⟩
  · rw [bools_len, Array.length_toList] at lt; exact lt
  · rw [bools_len, Array.length_toList]; exact Nat.le_refl _
  · rintro i v y H2 H3 Cn Nn ey s2 ⟨rfl, c, ec, rfl⟩ yes
    obtain ⟨rfl, lt⟩ := bools_at ey
    have cin : c ∈ signsL := chars c (List.mem_of_getElem? (by rw [Array.getElem?_toList]; exact ec))
    refine ⟨rfl, ?_⟩
    refine ⟨_, rfl, c, _, rfl, rfl, ?_⟩
    have z := yes H3 (Same.refl _)
    have e : decide (c ∈ (Str.ofString "abcdefghijklmnopqrstuvwxyz0123456789.").cps.toList) = true := decide_eq_true cin
    rw [e]
    exact z
  · intro H2 D nD oD s2
    rw [bools_map] at oD
    refine ⟨D, _, rfl, SqL.of oD, ?_⟩
    rw [all_true]
    exact hq H2 s2
end
end L2.TB
namespace L2.TB
open PySem PySem.Spec PyProof.Rows
theorem has_key {kvs : List (Key × V)} {ns : List Str} {x : Str} (h : kvs.map (·.1) = ns.map Sum.inr) (xin : x ∈ ns) : ∃ v, valV kvs (Sum.inr x) = some v := by
  have z : (Sum.inr x : Key) ∈ kvs.map (·.1) := by rw [h]; exact List.mem_map_of_mem xin
  obtain ⟨e, he, ee⟩ := List.mem_map.mp z
  have a : (kvs.any fun kv => decide (kv.1 = Sum.inr x)) = true := List.any_eq_true.mpr ⟨e, he, decide_eq_true ee⟩
  rw [valV_any] at a
  exact Option.isSome_iff_exists.mp a
theorem const_map (xs : List Str) : ((xs.map V.str).filter fun _ => true).map (fun _ => V.bl true) = bools xs.length := by
  rw [List.filter_eq_self.mpr (fun _ _ => rfl), List.map_map]
  unfold bools
  induction xs with
  | nil => rfl
  | cons a l ih => rw [List.map_cons, ih, List.length_cons, List.replicate_succ]; rfl
theorem dec_int2 (a b : Int) : decide (V.int a = V.int b) = decide (a = b) := by
  by_cases h : a = b
  · rw [h]; simp
  · rw [decide_eq_false h, decide_eq_false]
    exact fun z => h (V.int.inj z)
/-- dict rows of ints at as -/
def DRows (H : Hp) (ns : List Str) : List Addr → List (List Int) → Prop := Paired fun a vs => H a = some (.dK (dk ns vs)) ∧ vs.length = ns.length
theorem DRows.same {H H' : Hp} {ns : List Str} {as : List Addr} {tbl : List (List Int)} (r : DRows H ns as tbl) (s : Same H H') : DRows H' ns as tbl := Paired.mapP r fun a vs h => ⟨s _ _ h.1, h.2⟩
def spBadRow : Sp := fun vs H Q _ => ∃ (r : Addr) (as : List Addr) (ns : List Str) (tbl : List (List Int)), vs = [.ref r] ∧ H r = some (.lst (as.map V.ref)) ∧ DRows H ns as tbl ∧ tbl ≠ [] ∧ tbl.length < 1000 ∧ ns ≠ [] ∧ ns.Nodup ∧ (∀ x ∈ ns, NmOk x) ∧ ns.length < 1000 ∧ ∀ H', Same H H' → Q .non H'
abbrev NB : List Str := ["rows", "index", "row", "name"]
theorem scBadRow : FnScope NB ["rows"] (defScope sBadRow) := ⟨rfl, rfl, rfl, by decide +kernel, rfl, by decide +kernel, by decide +kernel⟩
theorem lock_off {H H' : Hp} {d : Addr} {u : HO} {od : Obj} (hd : H d = some u) (s : Same (upd H d (.frz od u)) H') : H' d = some (.frz od u) ∧ Same H (upd H' d u) := by
  refine ⟨s _ _ upd_same, fun b o e => ?_⟩
  by_cases hb : b = d
  · rw [hb, upd_same, ← hd, ← hb]; exact e
  · rw [upd_ne hb]
    exact s _ _ (by rw [upd_ne hb]; exact e)
theorem dk_at {ns : List Str} {vs : List Int} {i : Nat} {k : Key} {v : V} (h : (dk ns vs)[i]? = some (k, v)) (nd : ns.Nodup) (hl : ns.length = vs.length) : ∃ x n, k = Sum.inr x ∧ v = .int n ∧ ns[i]? = some x ∧ valV (dk ns vs) (Sum.inr x) = some (.int n) := by
  unfold dk at h ⊢
  rw [List.getElem?_map] at h
  obtain ⟨p, ep, e⟩ := Option.map_eq_some_iff.mp h
  cases e
  have ez : (ns.zip vs)[i]? = some p := ep
  rw [List.getElem?_zip_eq_some] at ez
  refine ⟨p.1, p.2, rfl, rfl, ez.1, ?_⟩
  have nk : (((ns.zip vs).map fun p : Str × Int => ((Sum.inr p.1 : Key), V.int p.2)).map (·.1)).Nodup := dk_nd hl nd
  have mem : ((Sum.inr p.1 : Key), V.int p.2) ∈ (ns.zip vs).map fun p : Str × Int => ((Sum.inr p.1 : Key), V.int p.2) := List.mem_map_of_mem (List.mem_of_getElem? ep)
  generalize (ns.zip vs).map (fun p : Str × Int => ((Sum.inr p.1 : Key), V.int p.2)) = kvs at nk mem
  clear h ez ep
  induction kvs with
  | nil => cases mem
  | cons q kvs ih =>
    unfold valV
    rw [List.find?_cons]
    by_cases hq : q.1 = Sum.inr p.1
    · rw [decide_eq_true hq]
      rcases List.mem_cons.mp mem with z | z
      · rw [← z]; rfl
      · exfalso
        rw [List.map_cons, List.nodup_cons] at nk
        exact nk.1 (hq ▸ List.mem_map_of_mem (f := (·.1)) z)
    · rw [decide_eq_false hq]
      rcases List.mem_cons.mp mem with z | z
      · exact absurd (by rw [← z]) hq
      · rw [List.map_cons, List.nodup_cons] at nk
        exact ih nk.2 z
section
variable {P : Program} {w : World} {K : PySem.W.Frag} {mg : Str → Option Value} {base : Heap} {f fL fI fN fH : Addr} {fd fdL fdI fdN fdH : FuncData}
theorem ok_hasJust (F : Fun K "has_just" "has_just" sHasJust f fd) (gI : mg "isinstance" = none) (gD : mg "dict" = none) (gN : mg "len" = none) (gA : mg "all" = none) : FnOk P w K mg base CX0 1 f fd ["thing", "names"] spHasJust := by
  refine F.ok scHasJust (fun vs H Q E h => by obtain ⟨d, c, kvs, ns, e, _⟩ := h; rw [e]; rfl) fun cdv A outer s H vs Q E hr hsp => ?_
  obtain ⟨d, c, kvs, ns, rfl, hd, hc, hk, short, hq⟩ := hsp
  have nd := scHasJust.nd
  have hu := hu_of hr
  refine ⟨_, pss_one (ps_ret (pe_and (pe_callB (r := rIsi K) call_isi rfl gI boot_isi (pa_cons (pv 0) (pa_cons (pe_bltn (v := .ty "dict") rfl gD boot_dict' rfl) pa_nil))) (pe_and (pe_cmpR op_eq (pe_callB call_lenD rfl gN boot_len (pa_cons (pv 0) pa_nil)) (pe_callB call_len_seq rfl gN boot_len (pa_cons (pv 1) pa_nil)) (nomark _))
    (pe_one (pe_callB (cr_all rfl) rfl gA boot_all' (pa_cons (pe_lc (own := [("name", 2)]) (tt := tYes) rfl nd (pi_seq (pv 1)) (blkOk_by (N := NHj) (sc := defScope sHasJust) (by decide +kernel)) (fun _ _ _ _ _ => pg_name (i := 2) nd rfl (Or.inl rfl)) (fun _ _ _ _ _ => pts_nil)
      (fun _ _ _ _ _ => pe_cmp (pc_din hu (pv 2) (pv 0)))) pa_nil)))))), ?_⟩
  have lk : kvs.length = ns.length := by
    have z := congrArg List.length hk
    rw [List.length_map, List.length_map] at z
    exact z
  refine ⟨_, rfl, _, _, _, _, true, rfl, .ty _, .base (.dK hd), kit_ty (by decide +kernel), _, rfl, iteT ?_⟩
  refine ⟨_, rfl, d, kvs, rfl, hd, _, rfl, c, _, rfl, .inl (SqL.of hc), rfl, _, rfl, ?_⟩
  rw [dec_int2, List.length_map, lk, decide_eq_true rfl]
  refine iteT ⟨_, rfl, lc_seq (.inl rfl) hc (by rw [List.length_map]; omega) (fun _ => true) (fun _ => .bl true) ?_ ?_⟩
  · rintro i v H2 Cn Nn ev s2 yes no
    rw [List.getElem?_map] at ev
    obtain ⟨x, ex, rfl⟩ := Option.map_eq_some_iff.mp ev
    obtain ⟨y, ey⟩ := has_key hk (List.mem_of_getElem? ex)
    refine ⟨rfl, ?_⟩
    refine ⟨_, rfl, _, rfl, d, _, rfl, DGet.k (k := Sum.inr x) (s2 _ _ hd), ?_⟩
    rw [ey]
    exact yes rfl H2 (Same.refl _)
  · intro H2 D nD oD s2
    rw [const_map, bools_map] at oD
    refine ⟨D, _, rfl, SqL.of oD, ?_⟩
    rw [all_true]
    exact hq H2 s2
theorem ok_badRow (F : Fun K "_first_bad_row" "_first_bad_row" sBadRow f fd) (FL : Fun K "is_list" "is_list" sIsList fL fdL) (gIL : mg "is_list" = some (.ref fL)) (FI : Fun K "is_integer" "is_integer" sIsInt fI fdI) (gII : mg "is_integer" = some (.ref fI))
    (FN : Fun K "is_name" "is_name" sIsName fN fdN) (gIN : mg "is_name" = some (.ref fN)) (FH : Fun K "has_just" "has_just" sHasJust fH fdH) (gHJ : mg "has_just" = some (.ref fH))
    (gI : mg "isinstance" = none) (gL : mg "list" = none) (gT : mg "tuple" = none) (gS : mg "str" = none) (gE : mg "enumerate" = none) (gN : mg "len" = none) (gA : mg "all" = none) (gD : mg "dict" = none) (gInt : mg "int" = none) (gB : mg "bool" = none)
    (gLo : ∃ t, mg "LONGEST" = some (.int 40 t)) (gSg : ∃ t, mg "SIGNS" = some (.str (Str.ofString "abcdefghijklmnopqrstuvwxyz0123456789.") t)) : FnOk P w K mg base CX0 2 f fd ["rows"] spBadRow := by
  have GL : FnOk P w K mg base CX0 1 fL fdL ["thing"] (spIsList K) := ok_isList FL gI gL gT
  have bL := FL.binds (ps := ["thing"]) fun _ _ _ _ _ _ us hl => match us, hl with | [_], _ => rfl
  have GI : FnOk P w K mg base CX0 1 fI fdI ["thing"] spIsInt := ok_isInt FI gI gInt gB
  have bI := FI.binds (ps := ["thing"]) fun _ _ _ _ _ _ us hl => match us, hl with | [_], _ => rfl
  have GN : FnOk P w K mg base CX0 1 fN fdN ["thing"] spIsName := ok_isName FN gI gS gN gA gLo gSg
  have bN := FN.binds (ps := ["thing"]) fun _ _ _ _ _ _ us hl => match us, hl with | [_], _ => rfl
  have GH : FnOk P w K mg base CX0 1 fH fdH ["thing", "names"] spHasJust := ok_hasJust FH gI gD gN gA
  have bH := FH.binds (ps := ["thing", "names"]) fun _ _ _ _ _ _ us hl => match us, hl with | [_, _], _ => rfl
  refine F.ok scBadRow (fun vs H Q E h => by obtain ⟨r, as, ns, tbl, e, _⟩ := h; rw [e]; rfl) fun cdv A outer s H vs Q E hr hsp => ?_
  obtain ⟨r, as, ns, tbl, rfl, hrr, rows, tne, tsh, nne, nnd, nok, nsh, hq⟩ := hsp
  have nd := scBadRow.nd
  have hu := hu_of hr
  refine ⟨_, pss_cons (ps_if (PW.pt (pw_or (pt_not (pt_val (pe_call GL hr rfl gIL FL.kp bL .nil pass0 (pa_cons (pv 0) pa_nil)))) (pw_or1 (pt_cmpR op_eq (pe_callB call_len_seq rfl gN boot_len (pa_cons (pv 0) pa_nil)) pe_int (nomark _))))) (pss_one ps_never) pss_nil)
    (pss_cons (ps_for PassesOwn.never rfl (pi_enumS rfl gE (pa_cons (pv 0) pa_nil)) (pg_tup rfl (pgs_cons (pg_name (i := 1) nd rfl (Or.inl rfl)) (pgs_cons (pg_name (i := 2) nd rfl (Or.inr rfl)) pgs_nil)))
      (pss_cons (ps_if (PW.pt (pw_or (pt_not (pt_val (pe_callB (r := rIsi K) call_isi rfl gI boot_isi (pa_cons (pv 2) (pa_cons (pe_bltn (v := .ty "dict") rfl gD boot_dict' rfl) pa_nil)))))
          (pw_or (pt_cmpR op_eq (pe_callB call_lenD rfl gN boot_len (pa_cons (pv 2) pa_nil)) pe_int (nomark _))
          (pw_or1 (pt_not (pt_val (pe_callB (cr_all rfl) rfl gA boot_all' (pa_cons (pe_lock (pe_lc (own := [("name", 3)]) (tt := tYes) rfl nd (pi_keys (pv 2)) (blkOk_by (N := NB) (sc := defScope sBadRow) (by decide +kernel)) (fun _ _ _ _ _ => pg_name (i := 3) nd rfl (Or.inl rfl)) (fun _ _ _ _ _ => pts_nil)
            (fun _ _ _ _ _ => pe_call GI hr rfl gII FI.kp bI .nil pass0 (pa_cons (pe_dget hu (pv 2) (pv 3) (fun _ _ => rfl)) pa_nil)))) pa_nil)))))))) (pss_one ps_never) pss_nil)
      (pss_one (ps_if (PW.pt (pw_or (pt_not (pt_val (pe_callB (cr_all rfl) rfl gA boot_all' (pa_cons (pe_lock (pe_lc (own := [("name", 3)]) (tt := tYes) rfl nd (pi_keys (pv 2)) (blkOk_by (N := NB) (sc := defScope sBadRow) (by decide +kernel)) (fun _ _ _ _ _ => pg_name (i := 3) nd rfl (Or.inl rfl)) (fun _ _ _ _ _ => pts_nil)
            (fun _ _ _ _ _ => pe_call GN hr rfl gIN FN.kp bN .nil pass0 (pa_cons (pv 3) pa_nil)))) pa_nil))))
          (pw_or1 (pt_not (pt_val (pe_call GH hr rfl gHJ FH.kp bH .nil pass0 (pa_cons (pv 2) (pa_cons (pe_callTy (call_listD rfl) rfl gL boot_list' (pa_cons (pe_ix ix_list (pv 0) pe_int (fun _ _ => rfl)) pa_nil)) pa_nil)))))))) (pss_one ps_never) pss_nil))))
    (pss_one (ps_ret pe_non))), ?_⟩
  have las : as.length = tbl.length := Paired.length rows
  have pos : 0 < tbl.length := List.length_pos_iff.mpr tne
  have npos : 0 < ns.length := List.length_pos_iff.mpr nne
  refine ⟨_, rfl, r, _, rfl, .inl hrr, fun H1 k1 => ⟨_, rfl, iteF ?_⟩⟩
  refine ⟨_, rfl, r, _, rfl, .inl (SqL.of (k1 _ _ hrr)), rfl, _, rfl, ?_⟩
  rw [dec_int2, List.length_map, decide_eq_false (by omega : ¬ ((as.length : Nat) : Int) = 0)]
  refine iteF ?_
  refine ⟨_, rfl, enum_seq (.inl rfl) (fun i σ H' => Same H1 H' ∧ ∃ s1 s2 s3, σ = [some (.ref r), s1, s2, s3]) ⟨Same.refl _, _, _, _, rfl⟩ (fun i σ H' _ h => h.1 _ _ (k1 _ _ hrr)) ?_ ?_⟩
  · rintro i v σ H2 T ev ⟨s2, s1', s2', s3', rfl⟩ nT
    rw [List.getElem?_map] at ev
    obtain ⟨a, ea, rfl⟩ := Option.map_eq_some_iff.mp ev
    have sT := (k1.trans s2).trans (same_new (o := .tup [.int (i : Nat), .ref a]) nT)
    refine ⟨T, _, rfl, SqT.of upd_same, rfl, _, _, rfl, _, _, rfl, rfl, ?_⟩
    have s2T := s2.trans (same_new (o := .tup [.int (i : Nat), .ref a]) nT)
    generalize upd H2 T (.tup [.int (i : Nat), .ref a]) = H3 at sT s2T
    obtain ⟨vs, ev2, oa, lv⟩ := paired_get (rows.same sT) ea
    have ldk : (dk ns vs).length = ns.length := by
      unfold dk
      rw [List.length_map, List.length_zip]; omega
    refine ⟨_, rfl, _, _, _, _, true, rfl, .ty _, .base (.dK oa), kit_ty (by decide +kernel), _, rfl, iteF ?_⟩
    refine ⟨_, rfl, a, _, rfl, oa, rfl, _, rfl, ?_⟩
    rw [dec_int2, ldk, decide_eq_false (by omega : ¬ ((ns.length : Nat) : Int) = 0)]
    refine iteF ?_
    refine ⟨a, _, oa, trivial, fun od => ⟨_, rfl, a, od, rfl, .inl ⟨_, upd_same, lc_gen (bools ns.length) (by rw [bools_len]; omega) (fun j H' s lt => ⟨s _ _ upd_same, by rw [ldk]; rw [bools_len] at lt; exact lt⟩) (fun H' s => ⟨s _ _ upd_same, by rw [ldk, bools_len]; exact Nat.le_refl _⟩) ?_ ?_⟩⟩⟩
    · rintro j v y H4 H5 Cn Nn ey s4 ⟨rfl, k, w', ek, rfl⟩ yes
      obtain ⟨rfl, lt⟩ := bools_at ey
      obtain ⟨x, n, rfl, rfl, _, hv⟩ := dk_at ek nnd lv.symm
      refine ⟨rfl, ?_⟩
      exact ⟨_, rfl, _, rfl, a, _, rfl, .inl ⟨_, Sum.inr x, .inr ⟨_, s4 _ _ upd_same⟩, rfl, hv.symm⟩, n, rfl, yes H5 (Same.refl _)⟩
    · intro H4 D nD oD s4
      obtain ⟨b1, s34⟩ := lock_off oa s4
      have Da : D ≠ a := fun z => by rw [z, upd_same] at nD; cases nD
      rw [bools_map] at oD
      refine ⟨b1, D, _, rfl, SqL.of (by rw [upd_ne Da]; exact oD), _, rfl, ?_⟩
      rw [all_true]
      refine iteF ?_
      have oa4 := s34 _ _ oa
      have sH4 := sT.trans s34
      have s14 := s2T.trans s34
      generalize upd H4 a (.dK (dk ns vs)) = H5 at s34 oa4 sH4 s14
      refine ⟨a, _, oa4, trivial, fun od2 => ⟨_, rfl, a, od2, rfl, .inl ⟨_, upd_same, lc_gen (bools ns.length) (by rw [bools_len]; omega) (fun j H' s lt => ⟨s _ _ upd_same, by rw [ldk]; rw [bools_len] at lt; exact lt⟩) (fun H' s => ⟨s _ _ upd_same, by rw [ldk, bools_len]; exact Nat.le_refl _⟩) ?_ ?_⟩⟩⟩
      · rintro j v y H6 H7 Cn Nn ey s6 ⟨rfl, k, w', ek, rfl⟩ yes
        obtain ⟨rfl, lt⟩ := bools_at ey
        obtain ⟨x, n, rfl, rfl, ex, hv⟩ := dk_at ek nnd lv.symm
        refine ⟨rfl, ?_⟩
        exact ⟨_, rfl, x, rfl, nok x (List.mem_of_getElem? ex), fun H' s' => yes H' s'⟩
      · intro H6 D2 nD2 oD2 s6
        obtain ⟨b2, s56⟩ := lock_off oa4 s6
        have Da2 : D2 ≠ a := fun z => by rw [z, upd_same] at nD2; cases nD2
        rw [bools_map] at oD2
        refine ⟨b2, D2, _, rfl, SqL.of (by rw [upd_ne Da2]; exact oD2), _, rfl, ?_⟩
        rw [all_true]
        refine iteF ?_
        have oa6 := s56 _ _ oa4
        have sH6 := sH4.trans s56
        have s16 := s14.trans s56
        generalize upd H6 a (.dK (dk ns vs)) = H7 at oa6 sH6 s16
        obtain ⟨a0, ea0⟩ : ∃ a0, as[0]? = some a0 := ⟨as[0]'(by omega), List.getElem?_eq_getElem _⟩
        obtain ⟨vs0, ev0, oa0, lv0⟩ := paired_get (rows.same sH6) ea0
        have at0' : atI (as.map V.ref) ((0 : Nat) : Int) = some (.ref a0) := atI_nat (by rw [List.getElem?_map, ea0]; rfl)
        refine ⟨_, rfl, _, rfl, _, _, _, _, rfl, rfl, SqL.of (sH6 _ _ hrr), at0', a0, _, rfl, .inl oa0, fun q nq => ?_⟩
        have ekeys : ((dk ns vs0).map fun kv => kV kv.1) = ns.map V.str := by
          have z := congrArg (List.map kV) (dk_keys lv0.symm)
          rw [List.map_map, List.map_map] at z
          exact z
        rw [ekeys]
        have sq := same_new (o := .lst (ns.map V.str)) nq
        exact ⟨a, q, dk ns vs, ns, rfl, sq _ _ oa6, upd_same, dk_keys lv.symm, nsh, fun H' s' => ⟨_, rfl, iteF ⟨(s16.trans sq).trans s', _, _, _, rfl⟩⟩⟩
  · rintro σ H2 ⟨s2, s1', s2', s3', rfl⟩
    exact hq _ (k1.trans s2)
end
end L2.TB
namespace L2.TB
open PySem PySem.Spec PyProof.Rows
abbrev NI : List Str := ["self", "rows", "index", "row", "name"]
theorem scInit : FnScope NI ["self", "rows"] (defScope sInit) := ⟨rfl, rfl, rfl, by decide +kernel, rfl, by decide +kernel, by decide +kernel⟩
def spInit (C : Addr) : Sp := fun vs H Q _ => ∃ (p dx r : Addr) (as : List Addr) (ns : List Str) (tbl : List (List Int)), vs = [.ref p, .ref r] ∧ H p = some (.ins C dx []) ∧ H r = some (.lst (as.map V.ref)) ∧ DRows H ns as tbl ∧ tbl ≠ [] ∧ tbl.length < 1000 ∧ ns ≠ [] ∧ ns.Nodup ∧ (∀ x ∈ ns, NmOk x) ∧ ns.length < 1000 ∧
  ∀ H', TabAt H' C p ns tbl → (∀ b o, b ≠ p → H b = some o → H' b = some o) → Q .non H'
theorem qr_ : ¬ (("_questions" : Str) = "_rows") := by decide +kernel
theorem put_two (qa ra : Addr) : putF "_rows" (.ref ra) (putF "_questions" (.ref qa) []) = tabF qa ra := by
  show (if ("_questions" : Str) = "_rows" then _ else (("_questions" : Str), V.ref qa) :: putF "_rows" (.ref ra) []) = tabF qa ra
  rw [if_neg qr_]
  rfl
abbrev scRow : Scope := { kind := ScopeKind.function, names := [(Str.ofString ".0", NameKind.local), (Str.ofString "row", NameKind.cell), (Str.ofString "tuple", NameKind.globalImplicit), (Str.ofString "self", NameKind.cell)], isGenerator := false, isCoroutine := false }
abbrev rTupOf (K : PySem.W.Frag) : List V → Hp → VK → Prop := fun xs H Q => ∃ p ys, xs = [V.ref p] ∧ ((SqL K H p ys ∧ ∀ l, H l = none → Q (.ref l) (upd H l (.tup ys))) ∨ (SqT K H p ys ∧ Q (.ref p) H))
section
variable {P : Program} {w : World} {K : PySem.W.Frag} {mg : Str → Option Value} {base : Heap} {f C fB : Addr} {fd fdB : FuncData}
theorem ok_init (F : Fun K "__init__" "Table.__init__" sInit f fd) (T : TabC K C) (GB : FnOk P w K mg base CX0 2 fB fdB ["rows"] spBadRow) (FB : Fun K "_first_bad_row" "_first_bad_row" sBadRow fB fdB) (gB : mg "_first_bad_row" = some (.ref fB)) (gL : mg "list" = none) (gT : mg "tuple" = none) : FnOk P w K mg base CX0 3 f fd ["self", "rows"] (spInit C) := by
  have bB := FB.binds (ps := ["rows"]) fun _ _ _ _ _ _ us hl => match us, hl with | [_], _ => rfl
  refine F.ok scInit (fun vs H Q E h => by obtain ⟨p, dx, r, as, ns, tbl, e, _⟩ := h; rw [e]; rfl) fun cdv A outer s H vs Q E hr hsp => ?_
  obtain ⟨p, dx, r, as, ns, tbl, rfl, hp, hrr, rows, tne, tsh, nne, nnd, nok, nsh, hq⟩ := hsp
  have nd := scInit.nd
  have hu := hu_of hr
  refine ⟨_, pss_cons (ps_set (i := 2) nd rfl (Or.inl rfl) (pe_call GB hr rfl gB FB.kp bB .nil pass0 (pa_cons (pv 1) pa_nil)))
    (pss_cons (ps_if (pt_cmp (pc_notN (pv 2))) (pss_one ps_never) pss_nil)
    (pss_cons (ps_fld (pv 0) (pe_callTy (call_listD rfl) rfl gL boot_list' (pa_cons (pe_ix ix_list (pv 1) pe_int (fun _ _ => rfl)) pa_nil)) rfl)
    (pss_one (ps_fld (pv 0) (pe_lc (own := [("row", 3)]) (tt := tYes) (te := tCB (rTupOf K) (tCons (tLc (iList K (tFld K (tVar 0) "_questions")) (gName 4) tYes (tDGet (tVar 3) (tVar 4)) [4]) tNil)) rfl nd (pi_list (pv 1)) (blkOk_by (N := NI) (sc := defScope sInit) (by decide +kernel)) (fun _ _ _ _ _ => pg_name (i := 3) nd rfl (Or.inr rfl)) (fun _ _ _ _ _ => pts_nil)
      (fun _ _ _ _ _ => pe_callTy (r := rTupOf K) call_tuple_of rfl gT boot_tuple' (pa_cons (pe_lc (own := [("name", 4)]) (tt := tYes) (g := gName 4) (wi := iList K (tFld K (tVar 0) "_questions")) (te := tDGet (tVar 3) (tVar 4)) rfl nd (pi_list (pe_fld (pv 0) rfl)) (blkOk_by (N := NI) (sc := scRow) (by decide +kernel)) (fun _ _ _ _ _ => pg_name (i := 4) nd rfl (Or.inl rfl)) (fun _ _ _ _ _ => pts_nil)
        (fun _ _ _ _ _ => pe_dget hu (pv 3) (pv 4) (fun _ _ => rfl))) pa_nil))) rfl)))), ?_⟩
  have las : as.length = tbl.length := Paired.length rows
  have pos : 0 < tbl.length := List.length_pos_iff.mpr tne
  have npos : 0 < ns.length := List.length_pos_iff.mpr nne
  refine ⟨_, rfl, r, as, ns, tbl, rfl, hrr, rows, tne, tsh, nne, nnd, nok, nsh, fun H1 s1 => ?_⟩
  refine ⟨_, rfl, _, rfl, iteF ?_⟩
  obtain ⟨a0, ea0⟩ : ∃ a0, as[0]? = some a0 := ⟨as[0]'(by omega), List.getElem?_eq_getElem _⟩
  obtain ⟨vs0, ev0, oa0, lv0⟩ := paired_get (rows.same s1) ea0
  have at0' : atI (as.map V.ref) ((0 : Nat) : Int) = some (.ref a0) := atI_nat (by rw [List.getElem?_map, ea0]; rfl)
  have ekeys : ((dk ns vs0).map fun kv => kV kv.1) = ns.map V.str := by
    have z := congrArg (List.map kV) (dk_keys lv0.symm)
    rw [List.map_map, List.map_map] at z
    exact z
  refine ⟨_, rfl, _, _, _, _, rfl, rfl, SqL.of (s1 _ _ hrr), at0', a0, _, rfl, .inl oa0, fun qa nqa => ?_⟩
  rw [ekeys]
  have sq := same_new (o := .lst (ns.map V.str)) nqa
  have hp2 := sq _ _ (s1 _ _ hp)
  have oq2 : upd H1 qa (.lst (ns.map V.str)) qa = some (.lst (ns.map V.str)) := upd_same
  have s12 := s1.trans sq
  generalize upd H1 qa (.lst (ns.map V.str)) = H2 at sq hp2 oq2 s12
  refine ⟨_, rfl, p, C, dx, _, rfl, hp2, T.cl, T.nQ, by decide, ?_⟩
  have hpu : upd H2 p (.ins C dx (putF "_questions" (.ref qa) [])) p = some (.ins C dx (putF "_questions" (.ref qa) [])) := upd_same
  have s2p : ∀ b o, b ≠ p → H2 b = some o → upd H2 p (.ins C dx (putF "_questions" (.ref qa) [])) b = some o := fun b o nb e => by rw [upd_ne nb]; exact e
  generalize upd H2 p (.ins C dx (putF "_questions" (.ref qa) [])) = H4 at hpu s2p
  have rp : r ≠ p := ne_of hrr hp (by intro z; cases z)
  have qp : qa ≠ p := ne_of oq2 hp2 (by intro z; cases z)
  have or4 := s2p _ _ rp (s12 _ _ hrr)
  have oq4 := s2p _ _ qp oq2
  have rows4 : DRows H4 ns as tbl := Paired.mapP rows fun a vs h => ⟨s2p _ _ (ne_of h.1 hp (by intro z; cases z)) (s12 _ _ h.1), h.2⟩
  refine ⟨_, rfl, r, rfl, ⟨_, SqL.of or4⟩, fun D nD => ?_⟩
  refine lc_list (xs := as.map V.ref) (fun i H' => ∃ ps, H' D = some (.lst ((ps : List Addr).map V.ref)) ∧ Paired (fun q vs => H' q = some (.tup (vs.map V.int)) ∧ vs.length = ns.length) ps (tbl.take i) ∧ Same H4 H')
    ⟨[], upd_same, .nil, same_new nD⟩ (fun i H' _ h => SqL.of (h.choose_spec.2.2 _ _ or4)) ?_ ?_
  · rintro i v H5 ev ⟨ps, oD, prs, s5⟩
    rw [List.getElem?_map] at ev
    obtain ⟨a, ea, rfl⟩ := Option.map_eq_some_iff.mp ev
    obtain ⟨vs, evs, oa, lv⟩ := paired_get (rows4.same s5) ea
    have hi : i < tbl.length := (List.getElem?_eq_some_iff.mp evs).1
    have lps : ps.length = i := by rw [Paired.length prs, List.length_take]; omega
    refine ⟨rfl, ?_⟩
    refine ⟨_, rfl, p, C, dx, _, _, rfl, s5 _ _ hpu, T.cl, T.nQ, rfl, qa, rfl, ⟨_, SqL.of (s5 _ _ oq4)⟩, lc_gen (vs.map V.int) (by rw [List.length_map]; omega) (fun j H' s lt => ⟨ns.map V.str, _, SqL.of (s _ _ (s5 _ _ oq4)), List.getElem?_eq_getElem (by rw [List.length_map] at lt ⊢; omega)⟩) (fun H' s => ⟨ns.map V.str, SqL.of (s _ _ (s5 _ _ oq4)), by rw [List.length_map, List.length_map]; omega⟩) ?_ ?_⟩
    · rintro j x y H6 H7 Cn Nn ey s6 ⟨rfl, ex⟩ yes
      have ex := ex _ (SqL.of (s6 _ _ (s5 _ _ oq4)))
      rw [List.getElem?_map] at ey ex
      obtain ⟨n, en, rfl⟩ := Option.map_eq_some_iff.mp ey
      obtain ⟨z, ez, rfl⟩ := Option.map_eq_some_iff.mp ex
      have edk : (dk ns vs)[j]? = some (Sum.inr z, V.int n) := by
        unfold dk
        rw [List.getElem?_map, List.getElem?_zip_eq_some.mpr (show ns[j]? = some (z, n).1 ∧ vs[j]? = some (z, n).2 from ⟨ez, en⟩)]
        rfl
      obtain ⟨z', n', e1, e2, _, hv⟩ := dk_at edk nnd lv.symm
      obtain rfl := Sum.inr.inj e1
      obtain rfl := V.int.inj e2
      refine ⟨rfl, ?_⟩
      exact ⟨_, rfl, _, rfl, a, _, rfl, hv ▸ DGet.k (k := Sum.inr z) (s6 _ _ oa), yes H7 (Same.refl _)⟩
    · intro H6 l nl ol s6
      refine ⟨l, _, rfl, .inl ⟨SqL.of ol, fun t nt => ?_⟩⟩
      have st := same_new (o := .tup (vs.map V.int)) nt
      have oD6 := st _ _ (s6 _ _ oD)
      have tD : t ≠ D := fun z => by rw [z, s6 _ _ oD] at nt; cases nt
      refine ⟨_, oD6, (by rw [sizeLine_eq, List.length_map]; omega), ps ++ [t], by rw [upd_same]; simp, ?_, ?_⟩
      · have e1 : tbl.take (i + 1) = tbl.take i ++ [vs] := by rw [List.take_succ, evs]; rfl
        rw [e1]
        refine paired_snoc ⟨by rw [upd_ne tD, upd_same], lv⟩ (Paired.mapP prs fun q vs' h => ⟨?_, h.2⟩)
        rw [upd_ne (ne_of h.1 oD (by intro z; cases z))]
        exact st _ _ (s6 _ _ h.1)
      · intro b u e
        rw [upd_ne (ne_of_none e nD)]
        exact st _ _ (s6 _ _ (s5 _ _ e))
  · rintro H5 ⟨ps, oD, prs, s5⟩
    have et : tbl.take (as.map V.ref).length = tbl := List.take_of_length_le (by rw [List.length_map]; omega)
    rw [et] at prs
    refine ⟨_, rfl, p, C, dx, _, rfl, s5 _ _ hpu, T.cl, T.nR, by show 1 < 1000; decide, ?_⟩
    rw [put_two]
    have Dp : D ≠ p := fun z => by rw [z, hpu] at nD; cases nD
    have frame : ∀ b o, b ≠ p → H b = some o → upd H5 p (.ins C dx (tabF qa D)) b = some o := fun b o nb e => by
      rw [upd_ne nb]
      exact s5 _ _ (s2p _ _ nb (s12 _ _ e))
    refine hq _ ⟨dx, qa, D, upd_same, ?_, ps, ?_, Paired.mapP prs fun q vs h => ⟨?_, h.2⟩⟩ frame
    · rw [upd_ne qp]; exact s5 _ _ oq4
    · rw [upd_ne Dp]; exact oD
    · rw [upd_ne (ne_of h.1 (s5 _ _ hpu) (by intro z; cases z))]; exact h.1
end
end L2.TB
namespace L2.TB
open PySem PySem.Spec PyProof.Rows
theorem SqA.ho {K : PySem.W.Frag} {H : Hp} {a : Addr} {xs : List V} (h : SqA K H a xs) : ∃ o, H a = some o ∧ (o = .lst xs ∨ o = .tup xs) := by
  rcases h with e | e
  · exact ⟨_, e, .inl rfl⟩
  · exact ⟨_, e, .inr rfl⟩
theorem key_mem {ns K : List Str} {u v : List Int} (h : keyR ns K u = keyR ns K v) : ∀ x ∈ K, av ns u x = av ns v x := by
  intro x hx
  exact List.map_inj_left.mp h x hx
theorem key_of {ns K : List Str} {u v : List Int} (h : ∀ x ∈ K, av ns u x = av ns v x) : keyR ns K u = keyR ns K v := List.map_inj_left.mpr h
theorem strs_shape : ∀ ks : List Str, (∀ k ∈ ks, PyData.strOk k = true) → PyData.canLayAll0 (ks.map PyData.str) = true ∧ PyData.depthAll (ks.map PyData.str) = 0
  | [], _ => ⟨by simp [PyData.canLayAll0], by simp [PyData.depthAll]⟩
  | b :: bs, h => by
    obtain ⟨h1, h2⟩ := strs_shape bs fun k hk => h k (List.mem_cons_of_mem _ hk)
    have h3 := h b List.mem_cons_self
    exact ⟨by simp [PyData.canLayAll0, PyData.canLay0, h1, h3], by simp [PyData.depthAll, PyData.depth, h2]⟩
theorem strs_shaped (ks : List Str) (h : ∀ k ∈ ks, PyData.strOk k = true) : SeqAt.shaped (.list (ks.map PyData.str)) = true := by
  obtain ⟨h1, h2⟩ := strs_shape ks h
  unfold SeqAt.shaped
  simp [PyData.canLay0, PyData.depth, h1, h2]
theorem strs_eqvAll : ∀ a b : List Str, PyData.eqvAll (a.map PyData.str) (b.map PyData.str) = decide (a = b)
  | [], [] => by simp [PyData.eqvAll]
  | [], _ :: _ => by simp [PyData.eqvAll]
  | _ :: _, [] => by simp [PyData.eqvAll]
  | x :: a, y :: b => by
    rw [List.map_cons, List.map_cons, PyData.eqvAll, strs_eqvAll a b, PyData.eqv]
    by_cases h1 : x = y
    · by_cases h2 : a = b <;> simp [h1, h2]
    · simp [h1]
theorem strs_eqv (a b : List Str) : PyData.eqv (.list (a.map PyData.str)) (.list (b.map PyData.str)) = decide (a = b) := by rw [PyData.eqv, strs_eqvAll]
theorem dp_strs {K : PySem.W.Frag} {H : Hp} : ∀ cs : List Str, DpAll K H (cs.map V.str) (cs.map PyData.str)
  | [] => .nil
  | c :: cs => .cons (.str c) (dp_strs cs)
theorem dp_list {K : PySem.W.Frag} {H : Hp} {a : Addr} {cs : List Str} (h : H a = some (.lst (cs.map V.str))) : Dp K H (.ref a) (.list (cs.map PyData.str)) := .lst (SqL.of h) (dp_strs cs)
theorem nm_strOk {x : Str} (h : NmOk x) : PyData.strOk x = true := by
  unfold PyData.strOk
  rw [← Array.all_toList, List.all_eq_true]
  intro c hc
  have z : ∀ c ∈ signsL, c < 0x110000 := by decide +kernel
  exact decide_eq_true (z c (h.2.2 c hc))
theorem strs_of : ∀ ys : List V, (∀ y ∈ ys, ∃ x, y = V.str x) → ∃ ks : List Str, ys = ks.map V.str
  | [], _ => ⟨[], rfl⟩
  | y :: ys, h => by
    obtain ⟨x, rfl⟩ := h y List.mem_cons_self
    obtain ⟨ks, rfl⟩ := strs_of ys fun z hz => h z (List.mem_cons_of_mem _ hz)
    exact ⟨x :: ks, rfl⟩
/-- a new key comes last -/
theorem put_last {acc : List (Key × V)} {k : Key} {v : V} (h : k ∉ acc.map (·.1)) : putK acc k v = acc ++ [(k, v)] := by
  have nd : ∀ acc : List (Key × V), k ∉ acc.map (·.1) → putK acc k v = acc ++ [(k, v)] := by
    intro acc h
    have no : (acc.any fun e => decide (e.1 = k)) = false := by
      cases q : acc.any fun e => decide (e.1 = k) with
      | false => rfl
      | true =>
        obtain ⟨e, he, ee⟩ := List.any_eq_true.mp q
        exact absurd (of_decide_eq_true ee ▸ List.mem_map_of_mem (f := (·.1)) he) h
    unfold putK
    rw [no]
    rfl
  exact nd acc h
/-- what a dict comprehension asks of its turns -/
def DcW (J : It) (g : TG) (tt : TT) (tk tv : TE) (vs : List Nat) (σ : St) (H1 : Hp) (Q : Addr → Hp → Prop) : Prop := ∀ D, H1 D = none → ∃ W : Nat → Nat → Hp → Prop, (∃ m, W 0 m (upd H1 D (.dK []))) ∧ ∀ i m H, W i m H →
  (J.stop i H ∧ Q D H) ∨ (J.go i H ∧ ∃ Nx : Hp → Prop, (∀ H', Nx H' → ∃ m', m' < m ∧ W (i + 1) m' H') ∧ ∀ x H', J.yld i H x H' → g x (wipe σ vs) H' fun σ2 H2 => wipe σ2 vs = wipe σ vs ∧ tt σ2 H2 fun b H3 =>
    if b = true then tk σ2 H3 fun y H4 => tv σ2 H4 fun z H5 => ∃ kvs k, y = kV k ∧ H5 D = some (.dK kvs) ∧ kvs.length < sizeLine ∧ Nx (upd H5 D (.dK (putK kvs k z))) else Nx H3)
/-- unlike keys: kvs is what it makes -/
theorem dc_gen {J : It} {g : TG} {tt : TT} {tk tv : TE} {vs : List Nat} {σ : St} {H1 : Hp} {Q : Addr → Hp → Prop} (kvs : List (Key × V)) (short : kvs.length < 1000000) (unlike : (kvs.map (·.1)).Nodup) (go : ∀ i H, Same H1 H → i < kvs.length → J.go i H) (stop : ∀ H, Same H1 H → J.stop kvs.length H)
    (turn : ∀ (i : Nat) (x : V) (k : Key) (v : V) (H H' : Hp) (C : V → V → Hp → Prop) (N : Hp → Prop), kvs[i]? = some (k, v) → Same H1 H → J.yld i H x H' → (∀ H5, Same H H5 → C (kV k) v H5) →
      g x (wipe σ vs) H' fun σ2 H2 => wipe σ2 vs = wipe σ vs ∧ tt σ2 H2 fun b H3 => if b = true then tk σ2 H3 fun y H4 => tv σ2 H4 fun z H5 => C y z H5 else N H3)
    (fin : ∀ H D, H1 D = none → H D = some (.dK kvs) → Same H1 H → Q D H) : DcW J g tt tk tv vs σ H1 Q := by
  intro D nD
  refine ⟨fun i m H => m = kvs.length - i ∧ i ≤ kvs.length ∧ H D = some (.dK (kvs.take i)) ∧ Same H1 H, ⟨_, rfl, Nat.zero_le _, upd_same, same_new nD⟩, ?_⟩
  rintro i m H ⟨rfl, le, oD, s1⟩
  by_cases lt : i < kvs.length
  · refine .inr ⟨go i H s1 lt, fun H' => H' D = some (.dK (kvs.take (i + 1))) ∧ Same H1 H', fun H' h => ⟨kvs.length - (i + 1), by omega, rfl, lt, h⟩, fun x H' yl => ?_⟩
    obtain ⟨k, v⟩ : Key × V := kvs[i]
    have ey : kvs[i]? = some (kvs[i].1, kvs[i].2) := List.getElem?_eq_getElem lt
    have et : kvs.take (i + 1) = kvs.take i ++ [(kvs[i].1, kvs[i].2)] := by rw [List.take_succ, ey]; rfl
    refine turn i x _ _ H H' (fun y z H5 => ∃ acc k, y = kV k ∧ H5 D = some (.dK acc) ∧ acc.length < sizeLine ∧ (upd H5 D (.dK (putK acc k z))) D = some (.dK (kvs.take (i + 1))) ∧ Same H1 (upd H5 D (.dK (putK acc k z)))) _ ey s1 yl fun H5 s5 => ⟨_, _, rfl, s5 _ _ oD, ?_, ?_, ?_⟩
    · rw [sizeLine_eq, List.length_take]; omega
    · rw [upd_same, put_last, et]
      have sp : ((kvs.take (i + 1)).map (·.1)).Nodup := (unlike.sublist ((List.take_sublist _ _).map _))
      rw [et, List.map_append, List.nodup_append] at sp
      exact fun hin => sp.2.2 _ hin _ (by simp) rfl
    · intro b u e
      rw [upd_ne (ne_of_none e nD)]
      exact s5 _ _ (s1 _ _ e)
  · obtain rfl : i = kvs.length := by omega
    rw [List.take_length] at oD
    exact .inl ⟨stop H s1, fin H D nD oD s1⟩
/-- a comprehension whose turns make things anew: R tells what the thing of a turn is -/
theorem lc_made {J : It} {g : TG} {tt : TT} {te : TE} {vs : List Nat} {σ : St} {H1 : Hp} {Q : Addr → Hp → Prop} (n : Nat) (short : n < 1000000) (go : ∀ i H, Same H1 H → i < n → J.go i H) (stop : ∀ H, Same H1 H → J.stop n H) (R : Nat → V → Hp → Prop)
    (stays : ∀ i y H H' D l, R i y H → H D = some (.lst l) → (∀ b o, b ≠ D → H b = some o → H' b = some o) → R i y H')
    (turn : ∀ (i : Nat) (x : V) (H H' : Hp) (C : V → Hp → Prop) (N : Hp → Prop), i < n → Same H1 H → J.yld i H x H' → (∀ y H4, R i y H4 → Same H H4 → C y H4) → g x (wipe σ vs) H' fun σ2 H2 => wipe σ2 vs = wipe σ vs ∧ tt σ2 H2 fun b H3 => if b = true then te σ2 H3 C else N H3)
    (fin : ∀ H D ys, H1 D = none → H D = some (.lst ys) → ys.length = n → (∀ j y, ys[j]? = some y → R j y H) → Same H1 H → Q D H) : LcW J g tt te vs σ H1 Q := by
  intro D nD
  refine ⟨fun i m H => m = n - i ∧ i ≤ n ∧ ∃ ys : List V, H D = some (.lst ys) ∧ ys.length = i ∧ (∀ j y, ys[j]? = some y → R j y H) ∧ Same H1 H, ⟨_, rfl, Nat.zero_le _, [], upd_same, rfl, (fun j y e => by cases e), same_new nD⟩, ?_⟩
  rintro i m H ⟨rfl, le, ys, oD, ly, ry, s1⟩
  by_cases lt : i < n
  · refine .inr ⟨go i H s1 lt, fun H' => ∃ ys : List V, H' D = some (.lst ys) ∧ ys.length = i + 1 ∧ (∀ j y, ys[j]? = some y → R j y H') ∧ Same H1 H', fun H' h => ⟨n - (i + 1), by omega, rfl, lt, h⟩, fun x H' yl => ?_⟩
    refine turn i x H H' _ _ lt s1 yl fun y H4 ry4 s4 => ⟨_, s4 _ _ oD, by rw [sizeLine_eq]; omega, ys ++ [y], upd_same, by simp [ly], fun j z ej => ?_, ?_⟩
    · have keep : ∀ b o, b ≠ D → H4 b = some o → upd H4 D (.lst (ys ++ [y])) b = some o := fun b o nb e => by rw [upd_ne nb]; exact e
      rcases Nat.lt_or_ge j ys.length with h | h
      · rw [List.getElem?_append_left h] at ej
        exact stays _ _ _ _ D _ (stays j z H H4 D _ (ry j z ej) oD fun b o _ e => s4 _ _ e) (s4 _ _ oD) keep
      · rw [List.getElem?_append_right h] at ej
        have e0 : j - ys.length = 0 := by
          have := (List.getElem?_eq_some_iff.mp ej).1
          simp at this
          omega
        rw [e0] at ej
        obtain rfl : y = z := Option.some.inj ej
        have ji : j = i := by omega
        subst ji
        exact stays _ _ _ _ D _ ry4 (s4 _ _ oD) keep
    · intro b u e
      rw [upd_ne (ne_of_none e nD)]
      exact s4 _ _ (s1 _ _ e)
  · obtain rfl : i = n := by omega
    exact .inl ⟨stop H s1, fin H D ys nD oD ly ry s1⟩
/-- from the things made to their addresses -/
theorem addrs_of {H : Hp} {P : Nat → Addr → Prop} : ∀ (ys : List V) (k : Nat), (∀ j y, ys[j]? = some y → ∃ t, y = V.ref t ∧ P (k + j) t) → ∃ as : List Addr, ys = as.map V.ref ∧ ∀ j a, as[j]? = some a → P (k + j) a
  | [], k, _ => ⟨[], rfl, fun j a e => by cases e⟩
  | y :: ys, k, h => by
    obtain ⟨t, rfl, pt⟩ := h 0 y rfl
    obtain ⟨as, e, pa⟩ := addrs_of (H := H) (P := P) ys (k + 1) fun j z ez => by
      have := h (j + 1) z ez
      rw [show k + 1 + j = k + (j + 1) from by omega]
      exact this
    refine ⟨t :: as, by rw [e]; rfl, fun j a ea => ?_⟩
    cases j with
    | zero => obtain rfl : t = a := Option.some.inj ea; exact pt
    | succ j =>
      have := pa j a ea
      rw [show k + (j + 1) = k + 1 + j from by omega]
      exact this
theorem paired_of {α β : Type} {R : α → β → Prop} : ∀ (xs : List α) (ys : List β), xs.length = ys.length → (∀ (i : Nat) (x : α) (y : β), xs[i]? = some x → ys[i]? = some y → R x y) → Paired R xs ys
  | [], [], _, _ => .nil
  | x :: xs, y :: ys, l, h => .cons (h 0 x y rfl rfl) (paired_of xs ys (by simpa using l) fun i a b ea eb => h (i + 1) a b ea eb)
theorem val_at : ∀ (kvs : List (Key × V)) (k : Key) (v : V), (kvs.map (·.1)).Nodup → (k, v) ∈ kvs → valV kvs k = some v
  | [], _, _, _, h => by cases h
  | q :: kvs, k, v, nk, mem => by
    unfold valV
    rw [List.find?_cons]
    by_cases hq : q.1 = k
    · rw [decide_eq_true hq]
      rcases List.mem_cons.mp mem with z | z
      · rw [← z]; rfl
      · exfalso
        rw [List.map_cons, List.nodup_cons] at nk
        exact nk.1 (hq ▸ List.mem_map_of_mem (f := (·.1)) z)
    · rw [decide_eq_false hq]
      rcases List.mem_cons.mp mem with z | z
      · exact absurd (by rw [← z]) hq
      · rw [List.map_cons, List.nodup_cons] at nk
        exact val_at kvs k v nk.2 z
theorem lc_genO {J : It} {g : TG} {tt : TT} {te : TE} {vs : List Nat} {σ : St} {H1 : Hp} {Q : Addr → Hp → Prop} (ys : List (Option V)) (short : ys.length < 1000000) (go : ∀ i H, Same H1 H → i < ys.length → J.go i H) (stop : ∀ H, Same H1 H → J.stop ys.length H)
    (turn : ∀ (i : Nat) (x : V) (o : Option V) (H H' : Hp) (C : V → Hp → Prop) (N : Hp → Prop), ys[i]? = some o → Same H1 H → J.yld i H x H' → (∀ y, o = some y → ∀ H4, Same H H4 → C y H4) → (o = none → ∀ H4, Same H H4 → N H4) →
      g x (wipe σ vs) H' fun σ2 H2 => wipe σ2 vs = wipe σ vs ∧ tt σ2 H2 fun b H3 => if b = true then te σ2 H3 C else N H3)
    (fin : ∀ H D, H1 D = none → H D = some (.lst (ys.filterMap id)) → Same H1 H → Q D H) : LcW J g tt te vs σ H1 Q := by
  intro D nD
  refine ⟨fun i m H => m = ys.length - i ∧ i ≤ ys.length ∧ H D = some (.lst ((ys.take i).filterMap id)) ∧ Same H1 H, ⟨_, rfl, Nat.zero_le _, upd_same, same_new nD⟩, ?_⟩
  rintro i m H ⟨rfl, le, oD, s1⟩
  by_cases lt : i < ys.length
  · refine .inr ⟨go i H s1 lt, fun H' => H' D = some (.lst ((ys.take (i + 1)).filterMap id)) ∧ Same H1 H', fun H' h => ⟨ys.length - (i + 1), by omega, rfl, lt, h⟩, fun x H' yl => ?_⟩
    have ey : ys[i]? = some ys[i] := List.getElem?_eq_getElem lt
    have et : ys.take (i + 1) = ys.take i ++ [ys[i]] := by rw [List.take_succ, ey]; rfl
    refine turn i x ys[i] H H' _ _ ey s1 yl (fun y e H4 s4 => ⟨_, s4 _ _ oD, ?_, ?_, ?_⟩) fun e H4 s4 => ⟨?_, s1.trans s4⟩
    · rw [sizeLine_eq]
      have := List.length_filterMap_le id (ys.take i)
      rw [List.length_take] at this
      omega
    · rw [upd_same, et, List.filterMap_append, e]; rfl
    · intro b u e'
      rw [upd_ne (ne_of_none e' nD)]
      exact s4 _ _ (s1 _ _ e')
    · rw [et, List.filterMap_append, e]
      simpa using s4 _ _ oD
  · obtain rfl : i = ys.length := by omega
    rw [List.take_length] at oD
    exact .inl ⟨stop H s1, fin H D nD oD s1⟩
end L2.TB
namespace L2.TB
open PySem PySem.Spec PyProof.Rows
/-! the law's own look at pairs of rows -/
theorem ints_shape : ∀ ks : List Int, PyData.canLayAll0 (ks.map PyData.int) = true ∧ PyData.depthAll (ks.map PyData.int) = 0
  | [] => ⟨by simp [PyData.canLayAll0], by simp [PyData.depthAll]⟩
  | b :: bs => by
    obtain ⟨h1, h2⟩ := ints_shape bs
    exact ⟨by simp [PyData.canLayAll0, PyData.canLay0, h1], by simp [PyData.depthAll, PyData.depth, h2]⟩
theorem tup_shaped (ks : List Int) : SeqAt.shaped (.tuple (ks.map PyData.int)) = true := by
  obtain ⟨h1, h2⟩ := ints_shape ks
  unfold SeqAt.shaped
  simp [PyData.canLay0, PyData.depth, h1, h2]
theorem tup_eqvAll : ∀ a b : List Int, PyData.eqvAll (a.map PyData.int) (b.map PyData.int) = decide (a = b)
  | [], [] => by simp [PyData.eqvAll]
  | [], _ :: _ => by simp [PyData.eqvAll]
  | _ :: _, [] => by simp [PyData.eqvAll]
  | x :: a, y :: b => by
    rw [List.map_cons, List.map_cons, PyData.eqvAll, tup_eqvAll a b, PyData.eqv]
    by_cases h1 : x = y
    · by_cases h2 : a = b <;> simp [h1, h2]
    · simp [h1]
theorem tup_eqv (a b : List Int) : PyData.eqv (.tuple (a.map PyData.int)) (.tuple (b.map PyData.int)) = decide (a = b) := by rw [PyData.eqv, tup_eqvAll]
theorem dk_av {ns : List Str} {vs : List Int} {x : Str} (nd : ns.Nodup) (hl : vs.length = ns.length) (xin : x ∈ ns) : valV (dk ns vs) (Sum.inr x) = some (.int (av ns vs x)) := by
  have lt : idx ns x < ns.length := List.idxOf_lt_length_of_mem xin
  have e1 : ns[idx ns x]? = some x := by
    rw [List.getElem?_eq_getElem lt]
    exact congrArg some (List.getElem_idxOf lt)
  have e2 : vs[idx ns x]? = some (av ns vs x) := by
    unfold av
    rw [List.getD_eq_getElem?_getD, List.getElem?_eq_getElem (by omega)]
    rfl
  have edk : (dk ns vs)[idx ns x]? = some (Sum.inr x, V.int (av ns vs x)) := by
    unfold dk
    rw [List.getElem?_map, List.getElem?_zip_eq_some.mpr (show ns[idx ns x]? = some (x, av ns vs x).1 ∧ vs[idx ns x]? = some (x, av ns vs x).2 from ⟨e1, e2⟩)]
    rfl
  obtain ⟨z', n', q1, q2, _, hv⟩ := dk_at edk nd hl.symm
  obtain rfl := Sum.inr.inj q1
  obtain rfl := V.int.inj q2
  exact hv
theorem rd_same {H H' : Hp} {d : Addr} {u : HO} (h : Rd H d u) (s : Same H H') : Rd H' d u := h.imp (s _ _) fun ⟨o, e⟩ => ⟨o, s _ _ e⟩
theorem dget_r {H : Hp} {a : Addr} {kvs : List (Key × V)} {k : Key} (e : Rd H a (.dK kvs)) : DGet H a (kV k) (valV kvs k) := .inl ⟨kvs, k, e, rfl, rfl⟩
/-- rows that are read, one of them perhaps being walked -/
def RRows (H : Hp) (ns : List Str) : List Addr → List (List Int) → Prop := Paired fun a vs => Rd H a (.dK (dk ns vs)) ∧ vs.length = ns.length
theorem RRows.same {H H' : Hp} {ns : List Str} {as : List Addr} {tbl : List (List Int)} (r : RRows H ns as tbl) (s : Same H H') : RRows H' ns as tbl := Paired.mapP r fun a vs h => ⟨rd_same h.1 s, h.2⟩
theorem DRows.rd {H : Hp} {ns : List Str} {as : List Addr} {tbl : List (List Int)} (r : DRows H ns as tbl) : RRows H ns as tbl := Paired.mapP r fun a vs h => ⟨.inl h.1, h.2⟩
def spKey (K : PySem.W.Frag) : Sp := fun vs H Q _ => ∃ (a c : Addr) (ns known : List Str) (us : List Int), vs = [.ref a, .ref c] ∧ Rd H a (.dK (dk ns us)) ∧ us.length = ns.length ∧ ns.Nodup ∧ SqA K H c (known.map V.str) ∧ (∀ x ∈ known, x ∈ ns) ∧ known.length < 1000 ∧
  ∀ H' t, H t = none → H' t = some (.tup ((keyR ns known us).map V.int)) → Same H H' → Q (.ref t) H'
structure Told (K : PySem.W.Frag) (H : Hp) (r c : Addr) (as : List Addr) (ns known : List Str) (tbl : List (List Int)) : Prop where
  r : H r = some (.lst (as.map V.ref))
  rows : RRows H ns as tbl
  k : SqA K H c (known.map V.str)
  sub : ∀ x ∈ known, x ∈ ns
  short : known.length < 1000
  ndn : ns.Nodup
theorem Told.same {K : PySem.W.Frag} {H H' : Hp} {r c : Addr} {as : List Addr} {ns known : List Str} {tbl : List (List Int)} (h : Told K H r c as ns known tbl) (s : Same H H') : Told K H' r c as ns known tbl :=
  ⟨s _ _ h.r, h.rows.same s, h.k.same s, h.sub, h.short, h.ndn⟩
def spTells (K : PySem.W.Frag) : Sp := fun vs H Q _ => ∃ (r c : Addr) (as : List Addr) (ns known : List Str) (x : Str) (tbl : List (List Int)), vs = [.ref r, .ref c, .str x] ∧ Told K H r c as ns known tbl ∧ x ∈ ns ∧ ∀ H', Same H H' → Q (.bl (decide (Tells ns tbl known x))) H'
abbrev NK : List Str := ["row", "known", "name"]
theorem scKey : FnScope NK ["row", "known"] (defScope sKey) := ⟨rfl, rfl, rfl, by decide +kernel, rfl, by decide +kernel, by decide +kernel⟩
abbrev NTl : List Str := ["rows", "known", "asked", "one", "other"]
theorem scTells : FnScope NTl ["rows", "known", "asked"] (defScope sTells) := ⟨rfl, rfl, rfl, by decide +kernel, rfl, by decide +kernel, by decide +kernel⟩
section
variable {P : Program} {w : World} {K : PySem.W.Frag} {mg : Str → Option Value} {base : Heap} {f fK : Addr} {fd fdK : FuncData}
theorem ok_key (F : Fun K "_law_t_key" "_law_t_key" sKey f fd) (gT : mg "tuple" = none) : FnOk P w K mg base CX0 1 f fd ["row", "known"] (spKey K) := by
  refine F.ok scKey (fun vs H Q E h => by obtain ⟨a, c, ns, known, us, e, _⟩ := h; rw [e]; rfl) fun cdv A outer s H vs Q E hr hsp => ?_
  obtain ⟨a, c, ns, known, us, rfl, ha, hl, ndn, hc, sub, short, hq⟩ := hsp
  have nd := scKey.nd
  have hu := hu_of hr
  refine ⟨_, pss_one (ps_ret (pe_callTy (r := rTupOf K) call_tuple_of rfl gT boot_tuple' (pa_cons (pe_lc (own := [("name", 2)]) (tt := tYes) rfl nd (pi_seq (pv 1)) (blkOk_by (N := NK) (sc := defScope sKey) (by decide +kernel)) (fun _ _ _ _ _ => pg_name (i := 2) nd rfl (Or.inl rfl)) (fun _ _ _ _ _ => pts_nil)
    (fun _ _ _ _ _ => pe_dget hu (pv 0) (pv 2) (fun _ _ => rfl))) pa_nil))), ?_⟩
  obtain ⟨o, ho, ko⟩ := hc.ho
  refine ⟨_, rfl, lc_seq ko ho (by rw [List.length_map]; omega) (fun _ => true) (fun v => match v with | .str x => .int (av ns us x) | _ => .non) ?_ ?_⟩
  · rintro i v H2 Cn Nn ev s2 yes no
    rw [List.getElem?_map] at ev
    obtain ⟨x, ex, rfl⟩ := Option.map_eq_some_iff.mp ev
    have xin : x ∈ ns := sub x (List.mem_of_getElem? ex)
    refine ⟨rfl, ?_⟩
    exact ⟨_, rfl, _, rfl, a, _, rfl, dk_av ndn hl xin ▸ dget_r (k := Sum.inr x) (rd_same ha s2), yes rfl H2 (Same.refl _)⟩
  · intro H2 D nD oD s2
    have e : ((known.map V.str).filter fun _ => true).map (fun v => match v with | .str x => V.int (av ns us x) | _ => .non) = (keyR ns known us).map V.int := by
      rw [List.filter_eq_self.mpr (fun _ _ => rfl), List.map_map]
      unfold keyR
      rw [List.map_map]
      rfl
    rw [e] at oD
    exact ⟨D, _, rfl, .inl ⟨SqL.of oD, fun t nt => hq _ t (s2.free nt) upd_same (s2.trans (same_new nt))⟩⟩
theorem ok_tells (F : Fun K "_law_t_tells" "_law_t_tells" sTells f fd) (FK : Fun K "_law_t_key" "_law_t_key" sKey fK fdK) (gK : mg "_law_t_key" = some (.ref fK)) (gT : mg "tuple" = none) : FnOk P w K mg base CX0 2 f fd ["rows", "known", "asked"] (spTells K) := by
  have G : FnOk P w K mg base CX0 1 fK fdK ["row", "known"] (spKey K) := ok_key FK gT
  have b := FK.binds (ps := ["row", "known"]) fun _ _ _ _ _ _ us hl => match us, hl with | [_, _], _ => rfl
  refine F.ok scTells (fun vs H Q E h => by obtain ⟨r, c, as, ns, known, x, tbl, e, _⟩ := h; rw [e]; rfl) fun cdv A outer s H vs Q E hr hsp => ?_
  obtain ⟨r, c, as, ns, known, x, tbl, rfl, T, xin, hq⟩ := hsp
  have nd := scTells.nd
  have hu := hu_of hr
  have hu64 := hr.units
  refine ⟨_, pss_cons (ps_for PassesOwn.never rfl (pi_list (pv 0)) (pg_name (i := 3) nd rfl (Or.inl rfl))
      (pss_one (ps_for PassesOwn.never rfl (pi_list (pv 0)) (pg_name (i := 4) nd rfl (Or.inl rfl))
        (pss_one (ps_if (PW.pt (pw_and (pt_cmpR (op_eqD hu64) (pe_call G hr rfl gK FK.kp b .nil pass0 (pa_cons (pv 3) (pa_cons (pv 1) pa_nil))) (pe_call G hr rfl gK FK.kp b .nil pass0 (pa_cons (pv 4) (pa_cons (pv 1) pa_nil))) (nomark _))
          (pw_and1 (pt_cmpR op_ne (pe_dget hu (pv 3) (pv 2) (fun _ _ => rfl)) (pe_dget hu (pv 4) (pv 2) (fun _ _ => rfl)) (nomark _))))) (pss_one (ps_ret pe_bl)) pss_nil)))))
    (pss_one (ps_ret pe_bl)), ?_⟩
  have las : as.length = tbl.length := Paired.length T.rows
  have lm : (as.map V.ref).length = tbl.length := by rw [List.length_map, las]
  refine ⟨_, rfl, r, rfl, ⟨_, SqL.of T.r⟩, for_list (xs := as.map V.ref) (fun i σ H' => Same H H' ∧ (∃ s3 s4, σ = [some (.ref r), some (.ref c), some (.str x), s3, s4]) ∧ ∀ u ∈ tbl.take i, ∀ v ∈ tbl, keyR ns known u = keyR ns known v → av ns u x = av ns v x)
    ⟨Same.refl _, ⟨_, _, rfl⟩, fun u hu => by simp at hu⟩ (fun i σ H' _ h => SqL.of (h.1 _ _ T.r)) ?_ ?_⟩
  · rintro i v σ H2 ev ⟨s2, ⟨s3', s4', rfl⟩, all⟩
    rw [List.getElem?_map] at ev
    obtain ⟨a, ea, rfl⟩ := Option.map_eq_some_iff.mp ev
    obtain ⟨u, eu, oa, lu⟩ := paired_get T.rows ea
    have uin : u ∈ tbl := List.mem_of_getElem? eu
    refine ⟨_, rfl, r, rfl, ⟨_, SqL.of (s2 _ _ T.r)⟩, for_list (xs := as.map V.ref) (fun j σ H' => Same H H' ∧ (∃ s4, σ = [some (.ref r), some (.ref c), some (.str x), some (.ref a), s4]) ∧ ∀ v ∈ tbl.take j, keyR ns known u = keyR ns known v → av ns u x = av ns v x)
      ⟨s2, ⟨_, rfl⟩, fun v hv => by simp at hv⟩ (fun i σ H' _ h => SqL.of (h.1 _ _ T.r)) ?_ ?_⟩
    · rintro j w' σ H3 ew ⟨s3, ⟨s4, rfl⟩, allj⟩
      rw [List.getElem?_map] at ew
      obtain ⟨a', ea', rfl⟩ := Option.map_eq_some_iff.mp ew
      obtain ⟨v, ev2, oa', lv⟩ := paired_get T.rows ea'
      have vin : v ∈ tbl := List.mem_of_getElem? ev2
      have e1 : tbl.take (j + 1) = tbl.take j ++ [v] := by rw [List.take_succ, ev2]; rfl
      refine ⟨_, rfl, _, rfl, a, c, ns, known, u, rfl, rd_same oa s3, lu, T.ndn, T.k.same s3, T.sub, T.short, fun H4 t4 n4 o4 s4 => ?_⟩
      have s34 := s3.trans s4
      refine ⟨_, rfl, _, rfl, a', c, ns, known, v, rfl, rd_same oa' s34, lv, T.ndn, T.k.same s34, T.sub, T.short, fun H5 t5 n5 o5 s5 => ?_⟩
      have s35 := s34.trans s5
      refine ⟨_, _, .tup (SqT.of (s5 _ _ o4)) (dp_ints _), .tup (SqT.of o5) (dp_ints _), tup_shaped _, tup_shaped _, _, rfl, ?_⟩
      rw [tup_eqv]
      have step : (keyR ns known u = keyR ns known v → av ns u x = av ns v x) → ∀ v ∈ tbl.take (j + 1), keyR ns known u = keyR ns known v → av ns u x = av ns v x := fun z v' hv' => by
        rw [e1] at hv'
        rcases List.mem_append.mp hv' with q | q
        · exact allj v' q
        · rw [List.mem_singleton.mp q]; exact z
      by_cases ek : keyR ns known u = keyR ns known v
      · rw [decide_eq_true ek]
        refine iteT ⟨_, rfl, _, rfl, a, _, rfl, dk_av T.ndn lu xin ▸ dget_r (k := Sum.inr x) (rd_same oa s35), _, rfl, _, rfl, a', _, rfl, dk_av T.ndn lv xin ▸ dget_r (k := Sum.inr x) (rd_same oa' s35), rfl, _, rfl, ?_⟩
        rw [dec_int2]
        by_cases ea : av ns u x = av ns v x
        · rw [decide_eq_true ea]
          exact iteF ⟨s35, ⟨_, rfl⟩, step fun _ => ea⟩
        · rw [decide_eq_false ea]
          refine iteT ?_
          have z := hq H5 s35
          rw [decide_eq_false (fun T' : Tells ns tbl known x => ea (T' u uin v vin ek))] at z
          exact z
      · rw [decide_eq_false ek]
        exact iteF (iteF ⟨s35, ⟨_, rfl⟩, step fun z => absurd z ek⟩)
    · rintro σ H3 ⟨s3, ⟨s4, rfl⟩, allj⟩
      have et : tbl.take (as.map V.ref).length = tbl := List.take_of_length_le (by omega)
      rw [et] at allj
      have e1 : tbl.take (i + 1) = tbl.take i ++ [u] := by rw [List.take_succ, eu]; rfl
      refine ⟨s3, ⟨_, _, rfl⟩, fun u' hu' => ?_⟩
      rw [e1] at hu'
      rcases List.mem_append.mp hu' with q | q
      · exact all u' q
      · rw [List.mem_singleton.mp q]; exact allj
  · rintro σ H2 ⟨s2, ⟨s3', s4', rfl⟩, all⟩
    have et : tbl.take (as.map V.ref).length = tbl := List.take_of_length_le (by omega)
    rw [et] at all
    have z := hq H2 s2
    rw [decide_eq_true (show Tells ns tbl known x from all)] at z
    exact z
end
end L2.TB
namespace L2.TB
open PySem PySem.Spec PyProof.Rows
/-! tables of rows whose questions stand in any order -/
structure RowD (ns : List Str) (kvs : List (Key × V)) (us : List Int) : Prop where
  keys : (kvs.map (·.1)).Perm (ns.map Sum.inr)
  val : ∀ x ∈ ns, valV kvs (Sum.inr x) = some (.int (av ns us x))
  len : us.length = ns.length
theorem inr_nd {ns : List Str} (nd : ns.Nodup) : (ns.map (Sum.inr : Str → Key)).Nodup := List.Pairwise.map Sum.inr (fun a b h e => h (Sum.inr.inj e)) nd
theorem RowD.nd {ns : List Str} {kvs : List (Key × V)} {us : List Int} (h : RowD ns kvs us) (nd : ns.Nodup) : (kvs.map (·.1)).Nodup := h.keys.nodup_iff.mpr (inr_nd nd)
theorem RowD.size {ns : List Str} {kvs : List (Key × V)} {us : List Int} (h : RowD ns kvs us) : kvs.length = ns.length := by
  have := h.keys.length_eq
  rw [List.length_map, List.length_map] at this
  exact this
theorem RowD.at {ns : List Str} {kvs : List (Key × V)} {us : List Int} {i : Nat} {k : Key} {v : V} (h : RowD ns kvs us) (nd : ns.Nodup) (e : kvs[i]? = some (k, v)) : ∃ x, x ∈ ns ∧ k = Sum.inr x ∧ v = .int (av ns us x) := by
  have m : k ∈ ns.map Sum.inr := h.keys.mem_iff.mp (List.mem_map_of_mem (f := (·.1)) (List.mem_of_getElem? e))
  obtain ⟨x, hx, rfl⟩ := List.mem_map.mp m
  have a := val_at _ _ _ (h.nd nd) (List.mem_of_getElem? e)
  rw [h.val x hx] at a
  exact ⟨x, hx, rfl, (Option.some.inj a).symm⟩
theorem rowD_dk {ns : List Str} {us : List Int} (nd : ns.Nodup) (l : us.length = ns.length) : RowD ns (dk ns us) us :=
  ⟨by rw [dk_keys l.symm], fun x hx => dk_av nd l hx, l⟩
def GRows (H : Hp) (ns : List Str) : List Addr → List (List Int) → Prop := Paired fun a us => ∃ kvs, H a = some (.dK kvs) ∧ RowD ns kvs us
theorem GRows.same {H H' : Hp} {ns : List Str} {as : List Addr} {tbl : List (List Int)} (r : GRows H ns as tbl) (s : Same H H') : GRows H' ns as tbl := Paired.mapP r fun a vs h => let ⟨kvs, e, d⟩ := h; ⟨kvs, s _ _ e, d⟩
/-- the first row's own order -/
def HeadD (H : Hp) (ns : List Str) (as : List Addr) : Prop := ∀ a, as[0]? = some a → ∃ kvs : List (Key × V), H a = some (.dK kvs) ∧ kvs.map (·.1) = ns.map Sum.inr
theorem HeadD.same {H H' : Hp} {ns : List Str} {as : List Addr} (h : HeadD H ns as) (s : Same H H') : HeadD H' ns as := fun a e => let ⟨kvs, o, k⟩ := h a e; ⟨kvs, s _ _ o, k⟩
theorem av_all {ns : List Str} {us : List Int} (nd : ns.Nodup) (l : us.length = ns.length) : ns.map (av ns us) = us := by
  apply List.ext_getElem
  · rw [List.length_map, l]
  · intro i h1 h2
    rw [List.length_map] at h1
    rw [List.getElem_map]
    have e : idx ns ns[i] = i := List.Nodup.idxOf_getElem nd i h1
    unfold av
    rw [e, List.getD_eq_getElem?_getD, List.getElem?_eq_getElem h2]
    rfl
/-- a list or a tuple by its place -/
def rIxA (K : PySem.W.Frag) : R2 := fun x y H Q => rIxL K x y H Q ∨ rIxT K x y H Q
theorem ix_any {X : Cx} : IxR X (rIxA X.K) := by
  intro value slice pins s σ H x y v u Q I rx ry h hs
  rcases h with h | h
  · exact ix_list value slice pins s σ H x y v u Q I rx ry h hs
  · exact ix_tup value slice pins s σ H x y v u Q I rx ry h hs
theorem at_any {K : PySem.W.Frag} {H : Hp} {a : Addr} {xs : List V} {i : Int} {v : V} {Q : VK} (h : SqA K H a xs) (e : atI xs i = some v) (q : Q v H) : rIxA K (.ref a) (.int i) H Q := by
  rcases h with h | h
  · exact .inl ⟨_, _, _, _, rfl, rfl, SqL.of h, e, q⟩
  · exact .inr ⟨_, _, _, _, rfl, rfl, SqT.of h, e, q⟩
/-- things made anew over a list or a tuple -/
theorem lc_madeS {K : PySem.W.Frag} {a : Addr} {xs : List V} {g : TG} {tt : TT} {te : TE} {vs : List Nat} {σ : St} {H1 : Hp} {Q : Addr → Hp → Prop} (h : SqA K H1 a xs) (short : xs.length < 1000000) (R : Nat → V → Hp → Prop)
    (stays : ∀ i y H H' D l, R i y H → H D = some (.lst l) → (∀ b o, b ≠ D → H b = some o → H' b = some o) → R i y H')
    (turn : ∀ (i : Nat) (x : V) (H : Hp) (C : V → Hp → Prop) (N : Hp → Prop), xs[i]? = some x → Same H1 H → (∀ y H4, R i y H4 → Same H H4 → C y H4) → g x (wipe σ vs) H fun σ2 H2 => wipe σ2 vs = wipe σ vs ∧ tt σ2 H2 fun b H3 => if b = true then te σ2 H3 C else N H3)
    (fin : ∀ H D ys, H1 D = none → H D = some (.lst ys) → ys.length = xs.length → (∀ j y, ys[j]? = some y → R j y H) → Same H1 H → Q D H) :
    ∃ b ys, V.ref a = V.ref b ∧ ((SqL K H1 b ys ∧ LcW (Itl K b) g tt te vs σ H1 Q) ∨ (SqT K H1 b ys ∧ LcW (Itt K b) g tt te vs σ H1 Q)) := by
  rcases h with h | h
  · refine ⟨a, xs, rfl, .inl ⟨SqL.of h, lc_made xs.length short (fun i H' s lt => ⟨_, _, SqL.of (s _ _ h), List.getElem?_eq_getElem lt⟩) (fun H' s => ⟨_, SqL.of (s _ _ h), Nat.le_refl _⟩) R stays ?_ fin⟩⟩
    rintro i x H H' C N lt s1 ⟨rfl, ex⟩ yes
    exact turn i x H' C N (ex _ (SqL.of (s1 _ _ h))) s1 yes
  · refine ⟨a, xs, rfl, .inr ⟨SqT.of h, lc_made xs.length short (fun i H' s lt => ⟨_, _, SqT.of (s _ _ h), List.getElem?_eq_getElem lt⟩) (fun H' s => ⟨_, SqT.of (s _ _ h), Nat.le_refl _⟩) R stays ?_ fin⟩⟩
    rintro i x H H' C N lt s1 ⟨rfl, ex⟩ yes
    exact turn i x H' C N (ex _ (SqT.of (s1 _ _ h))) s1 yes
def spHasJustG (K : PySem.W.Frag) : Sp := fun vs H Q _ => ∃ (d c : Addr) (kvs : List (Key × V)) (ns : List Str), vs = [.ref d, .ref c] ∧ H d = some (.dK kvs) ∧ H c = some (.lst (ns.map V.str)) ∧ kvs.length = ns.length ∧ (∀ x ∈ ns, ∃ v, valV kvs (Sum.inr x) = some v) ∧ ns.length < 1000 ∧ ∀ H', Same H H' → Q (.bl true) H'
def spBadRowG (K : PySem.W.Frag) : Sp := fun vs H Q _ => ∃ (r : Addr) (as : List Addr) (ns : List Str) (tbl : List (List Int)), vs = [.ref r] ∧ SqA K H r (as.map V.ref) ∧ GRows H ns as tbl ∧ HeadD H ns as ∧ tbl ≠ [] ∧ tbl.length < 1000 ∧ ns ≠ [] ∧ ns.Nodup ∧ (∀ x ∈ ns, NmOk x) ∧ ns.length < 1000 ∧ ∀ H', Same H H' → Q .non H'
def spInitG (K : PySem.W.Frag) (C : Addr) : Sp := fun vs H Q _ => ∃ (p dx r : Addr) (as : List Addr) (ns : List Str) (tbl : List (List Int)), vs = [.ref p, .ref r] ∧ H p = some (.ins C dx []) ∧ SqA K H r (as.map V.ref) ∧ GRows H ns as tbl ∧ HeadD H ns as ∧ tbl ≠ [] ∧ tbl.length < 1000 ∧ ns ≠ [] ∧ ns.Nodup ∧ (∀ x ∈ ns, NmOk x) ∧ ns.length < 1000 ∧
  ∀ H', TabAt H' C p ns tbl → (∀ b o, b ≠ p → H b = some o → H' b = some o) → Q .non H'
section
variable {P : Program} {w : World} {K : PySem.W.Frag} {mg : Str → Option Value} {base : Heap} {f fL fI fN fH fB C : Addr} {fd fdL fdI fdN fdH fdB : FuncData}
theorem ok_hasJustG (F : Fun K "has_just" "has_just" sHasJust f fd) (gI : mg "isinstance" = none) (gD : mg "dict" = none) (gN : mg "len" = none) (gA : mg "all" = none) : FnOk P w K mg base CX0 1 f fd ["thing", "names"] (spHasJustG K) := by
  refine F.ok scHasJust (fun vs H Q E h => by obtain ⟨d, c, kvs, ns, e, _⟩ := h; rw [e]; rfl) fun cdv A outer s H vs Q E hr hsp => ?_
  obtain ⟨d, c, kvs, ns, rfl, hd, hc, lk, has, short, hq⟩ := hsp
  have nd := scHasJust.nd
  have hu := hu_of hr
  refine ⟨_, pss_one (ps_ret (pe_and (pe_callB (r := rIsi K) call_isi rfl gI boot_isi (pa_cons (pv 0) (pa_cons (pe_bltn (v := .ty "dict") rfl gD boot_dict' rfl) pa_nil))) (pe_and (pe_cmpR op_eq (pe_callB call_lenD rfl gN boot_len (pa_cons (pv 0) pa_nil)) (pe_callB call_len_seq rfl gN boot_len (pa_cons (pv 1) pa_nil)) (nomark _))
    (pe_one (pe_callB (cr_all rfl) rfl gA boot_all' (pa_cons (pe_lc (own := [("name", 2)]) (tt := tYes) rfl nd (pi_seq (pv 1)) (blkOk_by (N := NHj) (sc := defScope sHasJust) (by decide +kernel)) (fun _ _ _ _ _ => pg_name (i := 2) nd rfl (Or.inl rfl)) (fun _ _ _ _ _ => pts_nil)
      (fun _ _ _ _ _ => pe_cmp (pc_din hu (pv 2) (pv 0)))) pa_nil)))))), ?_⟩
  refine ⟨_, rfl, _, _, _, _, true, rfl, .ty _, .base (.dK hd), kit_ty (by decide +kernel), _, rfl, iteT ?_⟩
  refine ⟨_, rfl, d, kvs, rfl, hd, _, rfl, c, _, rfl, .inl (SqL.of hc), rfl, _, rfl, ?_⟩
  rw [dec_int2, List.length_map, lk, decide_eq_true rfl]
  refine iteT ⟨_, rfl, lc_seq (.inl rfl) hc (by rw [List.length_map]; omega) (fun _ => true) (fun _ => .bl true) ?_ ?_⟩
  · rintro i v H2 Cn Nn ev s2 yes no
    rw [List.getElem?_map] at ev
    obtain ⟨x, ex, rfl⟩ := Option.map_eq_some_iff.mp ev
    obtain ⟨y, ey⟩ := has x (List.mem_of_getElem? ex)
    refine ⟨rfl, ?_⟩
    refine ⟨_, rfl, _, rfl, d, _, rfl, DGet.k (k := Sum.inr x) (s2 _ _ hd), ?_⟩
    rw [ey]
    exact yes rfl H2 (Same.refl _)
  · intro H2 D nD oD s2
    rw [const_map, bools_map] at oD
    refine ⟨D, _, rfl, SqL.of oD, ?_⟩
    rw [all_true]
    exact hq H2 s2
theorem ok_badRowG (F : Fun K "_first_bad_row" "_first_bad_row" sBadRow f fd) (FL : Fun K "is_list" "is_list" sIsList fL fdL) (gIL : mg "is_list" = some (.ref fL)) (FI : Fun K "is_integer" "is_integer" sIsInt fI fdI) (gII : mg "is_integer" = some (.ref fI))
    (FN : Fun K "is_name" "is_name" sIsName fN fdN) (gIN : mg "is_name" = some (.ref fN)) (FH : Fun K "has_just" "has_just" sHasJust fH fdH) (gHJ : mg "has_just" = some (.ref fH))
    (gI : mg "isinstance" = none) (gL : mg "list" = none) (gT : mg "tuple" = none) (gS : mg "str" = none) (gE : mg "enumerate" = none) (gN : mg "len" = none) (gA : mg "all" = none) (gD : mg "dict" = none) (gInt : mg "int" = none) (gB : mg "bool" = none)
    (gLo : ∃ t, mg "LONGEST" = some (.int 40 t)) (gSg : ∃ t, mg "SIGNS" = some (.str (Str.ofString "abcdefghijklmnopqrstuvwxyz0123456789.") t)) : FnOk P w K mg base CX0 2 f fd ["rows"] (spBadRowG K) := by
  have GL : FnOk P w K mg base CX0 1 fL fdL ["thing"] (spIsList K) := ok_isList FL gI gL gT
  have bL := FL.binds (ps := ["thing"]) fun _ _ _ _ _ _ us hl => match us, hl with | [_], _ => rfl
  have GI : FnOk P w K mg base CX0 1 fI fdI ["thing"] spIsInt := ok_isInt FI gI gInt gB
  have bI := FI.binds (ps := ["thing"]) fun _ _ _ _ _ _ us hl => match us, hl with | [_], _ => rfl
  have GN : FnOk P w K mg base CX0 1 fN fdN ["thing"] spIsName := ok_isName FN gI gS gN gA gLo gSg
  have bN := FN.binds (ps := ["thing"]) fun _ _ _ _ _ _ us hl => match us, hl with | [_], _ => rfl
  have GH : FnOk P w K mg base CX0 1 fH fdH ["thing", "names"] (spHasJustG K) := ok_hasJustG FH gI gD gN gA
  have bH := FH.binds (ps := ["thing", "names"]) fun _ _ _ _ _ _ us hl => match us, hl with | [_, _], _ => rfl
  refine F.ok scBadRow (fun vs H Q E h => by obtain ⟨r, as, ns, tbl, e, _⟩ := h; rw [e]; rfl) fun cdv A outer s H vs Q E hr hsp => ?_
  obtain ⟨r, as, ns, tbl, rfl, hrr, rows, hd0, tne, tsh, nne, nnd, nok, nsh, hq⟩ := hsp
  have nd := scBadRow.nd
  have hu := hu_of hr
  refine ⟨_, pss_cons (ps_if (PW.pt (pw_or (pt_not (pt_val (pe_call GL hr rfl gIL FL.kp bL .nil pass0 (pa_cons (pv 0) pa_nil)))) (pw_or1 (pt_cmpR op_eq (pe_callB call_len_seq rfl gN boot_len (pa_cons (pv 0) pa_nil)) pe_int (nomark _))))) (pss_one ps_never) pss_nil)
    (pss_cons (ps_for PassesOwn.never rfl (pi_enumS rfl gE (pa_cons (pv 0) pa_nil)) (pg_tup rfl (pgs_cons (pg_name (i := 1) nd rfl (Or.inl rfl)) (pgs_cons (pg_name (i := 2) nd rfl (Or.inr rfl)) pgs_nil)))
      (pss_cons (ps_if (PW.pt (pw_or (pt_not (pt_val (pe_callB (r := rIsi K) call_isi rfl gI boot_isi (pa_cons (pv 2) (pa_cons (pe_bltn (v := .ty "dict") rfl gD boot_dict' rfl) pa_nil)))))
          (pw_or (pt_cmpR op_eq (pe_callB call_lenD rfl gN boot_len (pa_cons (pv 2) pa_nil)) pe_int (nomark _))
          (pw_or1 (pt_not (pt_val (pe_callB (cr_all rfl) rfl gA boot_all' (pa_cons (pe_lock (pe_lc (own := [("name", 3)]) (tt := tYes) rfl nd (pi_keys (pv 2)) (blkOk_by (N := NB) (sc := defScope sBadRow) (by decide +kernel)) (fun _ _ _ _ _ => pg_name (i := 3) nd rfl (Or.inl rfl)) (fun _ _ _ _ _ => pts_nil)
            (fun _ _ _ _ _ => pe_call GI hr rfl gII FI.kp bI .nil pass0 (pa_cons (pe_dget hu (pv 2) (pv 3) (fun _ _ => rfl)) pa_nil)))) pa_nil)))))))) (pss_one ps_never) pss_nil)
      (pss_one (ps_if (PW.pt (pw_or (pt_not (pt_val (pe_callB (cr_all rfl) rfl gA boot_all' (pa_cons (pe_lock (pe_lc (own := [("name", 3)]) (tt := tYes) rfl nd (pi_keys (pv 2)) (blkOk_by (N := NB) (sc := defScope sBadRow) (by decide +kernel)) (fun _ _ _ _ _ => pg_name (i := 3) nd rfl (Or.inl rfl)) (fun _ _ _ _ _ => pts_nil)
            (fun _ _ _ _ _ => pe_call GN hr rfl gIN FN.kp bN .nil pass0 (pa_cons (pv 3) pa_nil)))) pa_nil))))
          (pw_or1 (pt_not (pt_val (pe_call GH hr rfl gHJ FH.kp bH .nil pass0 (pa_cons (pv 2) (pa_cons (pe_callTy (call_listD rfl) rfl gL boot_list' (pa_cons (pe_ix (r := rIxA K) ix_any (pv 0) pe_int (fun _ _ => rfl)) pa_nil)) pa_nil)))))))) (pss_one ps_never) pss_nil))))
    (pss_one (ps_ret pe_non))), ?_⟩
  have las : as.length = tbl.length := Paired.length rows
  have pos : 0 < tbl.length := List.length_pos_iff.mpr tne
  have npos : 0 < ns.length := List.length_pos_iff.mpr nne
  refine ⟨_, rfl, r, _, rfl, hrr, fun H1 k1 => ⟨_, rfl, iteF ?_⟩⟩
  refine ⟨_, rfl, r, _, rfl, (hrr.same k1).seq, rfl, _, rfl, ?_⟩
  rw [dec_int2, List.length_map, decide_eq_false (by omega : ¬ ((as.length : Nat) : Int) = 0)]
  refine iteF ?_
  have ko : ∃ o, (o = .lst (as.map V.ref) ∨ o = .tup (as.map V.ref)) ∧ H r = some o := hrr.elim (fun h => ⟨_, .inl rfl, h⟩) (fun h => ⟨_, .inr rfl, h⟩)
  obtain ⟨o, ko, hro⟩ := ko
  refine ⟨_, rfl, enum_seq ko (fun i σ H' => Same H1 H' ∧ ∃ s1 s2 s3, σ = [some (.ref r), s1, s2, s3]) ⟨Same.refl _, _, _, _, rfl⟩ (fun i σ H' _ h => h.1 _ _ (k1 _ _ hro)) ?_ ?_⟩
  · rintro i v σ H2 T ev ⟨s2, s1', s2', s3', rfl⟩ nT
    rw [List.getElem?_map] at ev
    obtain ⟨a, ea, rfl⟩ := Option.map_eq_some_iff.mp ev
    have sT := (k1.trans s2).trans (same_new (o := .tup [.int (i : Nat), .ref a]) nT)
    refine ⟨T, _, rfl, SqT.of upd_same, rfl, _, _, rfl, _, _, rfl, rfl, ?_⟩
    have s2T := s2.trans (same_new (o := .tup [.int (i : Nat), .ref a]) nT)
    generalize upd H2 T (.tup [.int (i : Nat), .ref a]) = H3 at sT s2T
    obtain ⟨us, ev2, kvs, oa, rd⟩ := paired_get (rows.same sT) ea
    have ldk := rd.size
    refine ⟨_, rfl, _, _, _, _, true, rfl, .ty _, .base (.dK oa), kit_ty (by decide +kernel), _, rfl, iteF ?_⟩
    refine ⟨_, rfl, a, _, rfl, oa, rfl, _, rfl, ?_⟩
    rw [dec_int2, ldk, decide_eq_false (by omega : ¬ ((ns.length : Nat) : Int) = 0)]
    refine iteF ?_
    refine ⟨a, _, oa, trivial, fun od => ⟨_, rfl, a, od, rfl, .inl ⟨_, upd_same, lc_gen (bools ns.length) (by rw [bools_len]; omega) (fun j H' s lt => ⟨s _ _ upd_same, by rw [ldk]; rw [bools_len] at lt; exact lt⟩) (fun H' s => ⟨s _ _ upd_same, by rw [ldk, bools_len]; exact Nat.le_refl _⟩) ?_ ?_⟩⟩⟩
    · rintro j v y H4 H5 Cn Nn ey s4 ⟨rfl, k, w', ek, rfl⟩ yes
      obtain ⟨rfl, lt⟩ := bools_at ey
      obtain ⟨x, xin, rfl, rfl⟩ := rd.at nnd ek
      refine ⟨rfl, ?_⟩
      exact ⟨_, rfl, _, rfl, a, _, rfl, .inl ⟨_, Sum.inr x, .inr ⟨_, s4 _ _ upd_same⟩, rfl, (rd.val x xin).symm⟩, _, rfl, yes H5 (Same.refl _)⟩
    · intro H4 D nD oD s4
      obtain ⟨b1, s34⟩ := lock_off oa s4
      have Da : D ≠ a := fun z => by rw [z, upd_same] at nD; cases nD
      rw [bools_map] at oD
      refine ⟨b1, D, _, rfl, SqL.of (by rw [upd_ne Da]; exact oD), _, rfl, ?_⟩
      rw [all_true]
      refine iteF ?_
      have oa4 := s34 _ _ oa
      have sH4 := sT.trans s34
      have s14 := s2T.trans s34
      generalize upd H4 a (.dK kvs) = H5 at s34 oa4 sH4 s14
      refine ⟨a, _, oa4, trivial, fun od2 => ⟨_, rfl, a, od2, rfl, .inl ⟨_, upd_same, lc_gen (bools ns.length) (by rw [bools_len]; omega) (fun j H' s lt => ⟨s _ _ upd_same, by rw [ldk]; rw [bools_len] at lt; exact lt⟩) (fun H' s => ⟨s _ _ upd_same, by rw [ldk, bools_len]; exact Nat.le_refl _⟩) ?_ ?_⟩⟩⟩
      · rintro j v y H6 H7 Cn Nn ey s6 ⟨rfl, k, w', ek, rfl⟩ yes
        obtain ⟨rfl, lt⟩ := bools_at ey
        obtain ⟨x, xin, rfl, rfl⟩ := rd.at nnd ek
        refine ⟨rfl, ?_⟩
        exact ⟨_, rfl, x, rfl, nok x xin, fun H' s' => yes H' s'⟩
      · intro H6 D2 nD2 oD2 s6
        obtain ⟨b2, s56⟩ := lock_off oa4 s6
        have Da2 : D2 ≠ a := fun z => by rw [z, upd_same] at nD2; cases nD2
        rw [bools_map] at oD2
        refine ⟨b2, D2, _, rfl, SqL.of (by rw [upd_ne Da2]; exact oD2), _, rfl, ?_⟩
        rw [all_true]
        refine iteF ?_
        have oa6 := s56 _ _ oa4
        have sH6 := sH4.trans s56
        have s16 := s14.trans s56
        generalize upd H6 a (.dK kvs) = H7 at oa6 sH6 s16
        obtain ⟨a0, ea0⟩ : ∃ a0, as[0]? = some a0 := ⟨as[0]'(by omega), List.getElem?_eq_getElem _⟩
        obtain ⟨kv0, oa0, ek0⟩ := (hd0.same sH6) a0 ea0
        have at0' : atI (as.map V.ref) ((0 : Nat) : Int) = some (.ref a0) := atI_nat (by rw [List.getElem?_map, ea0]; rfl)
        refine ⟨_, rfl, _, rfl, at_any (hrr.same sH6) at0' ⟨a0, _, rfl, .inl oa0, fun q nq => ?_⟩⟩
        have ekeys : (kv0.map fun kv => kV kv.1) = ns.map V.str := by
          have z := congrArg (List.map kV) ek0
          rw [List.map_map, List.map_map] at z
          exact z
        rw [ekeys]
        have sq := same_new (o := .lst (ns.map V.str)) nq
        exact ⟨a, q, kvs, ns, rfl, sq _ _ oa6, upd_same, ldk, fun x hx => ⟨_, rd.val x hx⟩, nsh, fun H' s' => ⟨_, rfl, iteF ⟨(s16.trans sq).trans s', _, _, _, rfl⟩⟩⟩
  · rintro σ H2 ⟨s2, s1', s2', s3', rfl⟩
    exact hq _ (k1.trans s2)
end
end L2.TB
namespace L2.TB
open PySem PySem.Spec PyProof.Rows
section
variable {P : Program} {w : World} {K : PySem.W.Frag} {mg : Str → Option Value} {base : Heap} {f C fB : Addr} {fd fdB : FuncData}
theorem ok_initG (F : Fun K "__init__" "Table.__init__" sInit f fd) (T : TabC K C) (GB : FnOk P w K mg base CX0 2 fB fdB ["rows"] (spBadRowG K)) (FB : Fun K "_first_bad_row" "_first_bad_row" sBadRow fB fdB) (gB : mg "_first_bad_row" = some (.ref fB)) (gL : mg "list" = none) (gT : mg "tuple" = none) : FnOk P w K mg base CX0 3 f fd ["self", "rows"] (spInitG K C) := by
  have bB := FB.binds (ps := ["rows"]) fun _ _ _ _ _ _ us hl => match us, hl with | [_], _ => rfl
  refine F.ok scInit (fun vs H Q E h => by obtain ⟨p, dx, r, as, ns, tbl, e, _⟩ := h; rw [e]; rfl) fun cdv A outer s H vs Q E hr hsp => ?_
  obtain ⟨p, dx, r, as, ns, tbl, rfl, hp, hrr, rows, hd0, tne, tsh, nne, nnd, nok, nsh, hq⟩ := hsp
  have nd := scInit.nd
  have hu := hu_of hr
  refine ⟨_, pss_cons (ps_set (i := 2) nd rfl (Or.inl rfl) (pe_call GB hr rfl gB FB.kp bB .nil pass0 (pa_cons (pv 1) pa_nil)))
    (pss_cons (ps_if (pt_cmp (pc_notN (pv 2))) (pss_one ps_never) pss_nil)
    (pss_cons (ps_fld (pv 0) (pe_callTy (call_listD rfl) rfl gL boot_list' (pa_cons (pe_ix (r := rIxA K) ix_any (pv 1) pe_int (fun _ _ => rfl)) pa_nil)) rfl)
    (pss_one (ps_fld (pv 0) (pe_lc (own := [("row", 3)]) (tt := tYes) (te := tCB (rTupOf K) (tCons (tLc (iList K (tFld K (tVar 0) "_questions")) (gName 4) tYes (tDGet (tVar 3) (tVar 4)) [4]) tNil)) rfl nd (pi_seq (pv 1)) (blkOk_by (N := NI) (sc := defScope sInit) (by decide +kernel)) (fun _ _ _ _ _ => pg_name (i := 3) nd rfl (Or.inr rfl)) (fun _ _ _ _ _ => pts_nil)
      (fun _ _ _ _ _ => pe_callTy (r := rTupOf K) call_tuple_of rfl gT boot_tuple' (pa_cons (pe_lc (own := [("name", 4)]) (tt := tYes) (g := gName 4) (wi := iList K (tFld K (tVar 0) "_questions")) (te := tDGet (tVar 3) (tVar 4)) rfl nd (pi_list (pe_fld (pv 0) rfl)) (blkOk_by (N := NI) (sc := scRow) (by decide +kernel)) (fun _ _ _ _ _ => pg_name (i := 4) nd rfl (Or.inl rfl)) (fun _ _ _ _ _ => pts_nil)
        (fun _ _ _ _ _ => pe_dget hu (pv 3) (pv 4) (fun _ _ => rfl))) pa_nil))) rfl)))), ?_⟩
  have las : as.length = tbl.length := Paired.length rows
  have pos : 0 < tbl.length := List.length_pos_iff.mpr tne
  refine ⟨_, rfl, r, as, ns, tbl, rfl, hrr, rows, hd0, tne, tsh, nne, nnd, nok, nsh, fun H1 s1 => ?_⟩
  refine ⟨_, rfl, _, rfl, iteF ?_⟩
  obtain ⟨a0, ea0⟩ : ∃ a0, as[0]? = some a0 := ⟨as[0]'(by omega), List.getElem?_eq_getElem _⟩
  obtain ⟨kv0, oa0, ek0⟩ := (hd0.same s1) a0 ea0
  have at0' : atI (as.map V.ref) ((0 : Nat) : Int) = some (.ref a0) := atI_nat (by rw [List.getElem?_map, ea0]; rfl)
  have ekeys : (kv0.map fun kv => kV kv.1) = ns.map V.str := by
    have z := congrArg (List.map kV) ek0
    rw [List.map_map, List.map_map] at z
    exact z
  refine ⟨_, rfl, at_any (hrr.same s1) at0' ⟨a0, _, rfl, .inl oa0, fun qa nqa => ?_⟩⟩
  rw [ekeys]
  have sq := same_new (o := .lst (ns.map V.str)) nqa
  have hp2 := sq _ _ (s1 _ _ hp)
  have oq2 : upd H1 qa (.lst (ns.map V.str)) qa = some (.lst (ns.map V.str)) := upd_same
  have s12 := s1.trans sq
  generalize upd H1 qa (.lst (ns.map V.str)) = H2 at sq hp2 oq2 s12
  refine ⟨_, rfl, p, C, dx, _, rfl, hp2, T.cl, T.nQ, by decide, ?_⟩
  have hpu : upd H2 p (.ins C dx (putF "_questions" (.ref qa) [])) p = some (.ins C dx (putF "_questions" (.ref qa) [])) := upd_same
  have s2p : ∀ b o, b ≠ p → H2 b = some o → upd H2 p (.ins C dx (putF "_questions" (.ref qa) [])) b = some o := fun b o nb e => by rw [upd_ne nb]; exact e
  generalize upd H2 p (.ins C dx (putF "_questions" (.ref qa) [])) = H4 at hpu s2p
  have rp : r ≠ p := by
    intro z
    rw [z] at hrr
    rcases hrr with h | h <;> (rw [hp] at h; cases h)
  have qp : qa ≠ p := ne_of oq2 hp2 (by intro z; cases z)
  have or4 : SqA K H4 r (as.map V.ref) := (hrr.same s12).imp (s2p _ _ rp) (s2p _ _ rp)
  have oq4 := s2p _ _ qp oq2
  have rows4 : GRows H4 ns as tbl := Paired.mapP rows fun a vs h => let ⟨kvs, e, d⟩ := h; ⟨kvs, s2p _ _ (ne_of e hp (by intro z; cases z)) (s12 _ _ e), d⟩
  refine ⟨_, rfl, lc_madeS or4 (by rw [List.length_map]; omega) (fun i y H' => ∃ t us, y = V.ref t ∧ tbl[i]? = some us ∧ H' t = some (.tup (us.map V.int)) ∧ us.length = ns.length) ?_ ?_ ?_⟩
  · rintro i y H5 H6 D l ⟨t, us, rfl, eu, ot, lu⟩ oD keep
    exact ⟨t, us, rfl, eu, keep _ _ (ne_of ot oD (by intro z; cases z)) ot, lu⟩
  · rintro i v H5 Cn Nn ev s5 yes
    rw [List.getElem?_map] at ev
    obtain ⟨a, ea, rfl⟩ := Option.map_eq_some_iff.mp ev
    obtain ⟨us, eu, kvs, oa, rd⟩ := paired_get (rows4.same s5) ea
    refine ⟨rfl, ?_⟩
    refine ⟨_, rfl, p, C, dx, _, _, rfl, s5 _ _ hpu, T.cl, T.nQ, rfl, qa, rfl, ⟨_, SqL.of (s5 _ _ oq4)⟩, lc_gen ((ns.map (av ns us)).map V.int) (by rw [List.length_map, List.length_map]; omega) (fun j H' s lt => ⟨ns.map V.str, _, SqL.of (s _ _ (s5 _ _ oq4)), List.getElem?_eq_getElem (by rw [List.length_map, List.length_map] at lt; rw [List.length_map]; exact lt)⟩) (fun H' s => ⟨ns.map V.str, SqL.of (s _ _ (s5 _ _ oq4)), by rw [List.length_map, List.length_map, List.length_map]; omega⟩) ?_ ?_⟩
    · rintro j x y H6 H7 Cm Nm ey s6 ⟨rfl, ex⟩ yes2
      have ex := ex _ (SqL.of (s6 _ _ (s5 _ _ oq4)))
      rw [List.getElem?_map] at ex
      obtain ⟨z, ez, rfl⟩ := Option.map_eq_some_iff.mp ex
      rw [List.getElem?_map, List.getElem?_map, ez] at ey
      obtain rfl : V.int (av ns us z) = y := Option.some.inj ey
      refine ⟨rfl, ?_⟩
      exact ⟨_, rfl, _, rfl, a, _, rfl, rd.val z (List.mem_of_getElem? ez) ▸ DGet.k (k := Sum.inr z) (s6 _ _ oa), yes2 H7 (Same.refl _)⟩
    · intro H6 l nl ol s6
      rw [av_all nnd rd.len] at ol
      refine ⟨l, _, rfl, .inl ⟨SqL.of ol, fun t nt => ?_⟩⟩
      have st := same_new (o := .tup (us.map V.int)) nt
      exact yes _ _ ⟨t, us, rfl, eu, upd_same, rd.len⟩ (s6.trans st)
  · intro H5 D ys nD oD ly ry s5
    rw [List.length_map] at ly
    obtain ⟨ps, rfl, pa⟩ := addrs_of (H := H5) (P := fun i t => ∃ us, tbl[i]? = some us ∧ H5 t = some (.tup (us.map V.int)) ∧ us.length = ns.length) ys 0 fun j y e => by
      obtain ⟨t, us, e1, e2, e3, e4⟩ := ry j y e
      exact ⟨t, e1, us, by simpa using e2, e3, e4⟩
    refine ⟨_, rfl, p, C, dx, _, rfl, s5 _ _ hpu, T.cl, T.nR, by show 1 < 1000; decide, ?_⟩
    rw [put_two]
    have Dp : D ≠ p := fun z => by rw [z, hpu] at nD; cases nD
    have frame : ∀ b o, b ≠ p → H b = some o → upd H5 p (.ins C dx (tabF qa D)) b = some o := fun b o nb e => by
      rw [upd_ne nb]
      exact s5 _ _ (s2p _ _ nb (s12 _ _ e))
    refine hq _ ⟨dx, qa, D, upd_same, ?_, ps, ?_, paired_of ps tbl (by rw [← las, ← ly, List.length_map]) fun i q us eq eu => ?_⟩ frame
    · rw [upd_ne qp]; exact s5 _ _ oq4
    · rw [upd_ne Dp]; exact oD
    · obtain ⟨us', e2, e3, e4⟩ := pa i q eq
      rw [Nat.zero_add, eu] at e2
      cases e2
      refine ⟨?_, e4⟩
      rw [upd_ne (ne_of e3 (s5 _ _ hpu) (by intro z; cases z))]
      exact e3
end
end L2.TB
namespace L2.TB
open PySem PySem.Spec PyProof.Rows
/-! for x, y in zip(xs, ys), xs a list, ys a tuple of as many -/
section
/-- what the maker leaves, one cell after the other -/
abbrev mk1 (h : Heap) (l : Addr) : Heap := h.push { cls := .type "list_iterator", data := .fields #[.ref l, .int 0 0] }
abbrev mk2 (h : Heap) (l t : Addr) : Heap := (mk1 h l).push { cls := .type "tuple_iterator", data := .fields #[.ref t, .int 0 0] }
abbrev mk3 (h : Heap) (l t : Addr) : Heap := (mk2 h l t).push { cls := .type "tuple", data := .seq #[.ref h.objs.size, .ref (mk1 h l).objs.size] }
abbrev mk4 (h : Heap) (l t : Addr) : Heap := (mk3 h l t).push { cls := .type "tuple", data := .seq #[.none, .none] }
abbrev mk5 (h : Heap) (l t : Addr) : Heap := (mk4 h l t).push { cls := .type "zip", data := .fields #[.none, .bool false, .bool false, .ref (mk2 h l t).objs.size, .ref (mk3 h l t).objs.size] }
theorem made_zip (l t : Addr) (as bs : Array Value) : Meets (Builtin.«zip.__new__» ⟨[.type "zip", .ref l, .ref t], []⟩) fun _ done z =>
    z.heap.IsList l as ∧ z.heap.IsTuple t bs ∧ done (.ok (.ret (.ref (mk4 z.heap l t).objs.size))) { z with heap := mk5 z.heap l t } :=
  .of_wp fun _ _ _ _ z hz => by
    obtain ⟨h0, gs, ds, tk, os⟩ := z
    obtain ⟨isL, isT, fin⟩ := hz
    have sub := sub_zip
    have isL0 : Heap.IsList (Shared.heap ⟨h0, gs, ds, tk, os⟩) l as := isL
    have isT1 : Heap.IsTuple (Shared.heap ⟨mk1 h0 l, gs, ds, tk, os⟩) t bs := Heap.IsTuple.push isT _
    wp_walk using wpAny_pyIter_list isL0, wpAny_pyIter_tuple isT1
    exact ⟨_, rfl, fin⟩
theorem zip_mixed {P : Program} {w : World} {A : Around} {z : Shared} {E Q : Value → Shared → Prop} {l t : Addr} {as bs : Array Value} (isL : z.heap.IsList l as) (isT : z.heap.IsTuple t bs)
    (more : ∀ h', IsZip h' (z.heap.objs.size + 4) (z.heap.objs.size + 2) (z.heap.objs.size + 3) .none → IsTupOf2 h' (z.heap.objs.size + 2) (.ref z.heap.objs.size) (.ref (z.heap.objs.size + 1)) →
      IsTupOf2 h' (z.heap.objs.size + 3) .none .none → h'.IsListIter z.heap.objs.size l 0 → h'.IsTupleIter (z.heap.objs.size + 1) t 0 → (∀ c o, z.heap.get? c = some o → h'.get? c = some o) → Q (.ref (z.heap.objs.size + 4)) { z with heap := h' }) :
    wpAny (model P w) A (call (.type "zip") [.ref l, .ref t]) Q E z := by
  refine callType_new F.called_zip (by decide) (F.typeCall_zip_2 _ _) (F.newCall_zip_2 _ _) (fun o => F.args_object_init_3 o _ _) F.entry_zip_new (made_zip l t as bs) ⟨isL, isT, ?_⟩
  have s1 : (mk1 z.heap l).objs.size = z.heap.objs.size + 1 := Heap.size_push ..
  have s2 : (mk2 z.heap l t).objs.size = z.heap.objs.size + 2 := by rw [Heap.size_push, s1]
  have s3 : (mk3 z.heap l t).objs.size = z.heap.objs.size + 3 := by rw [Heap.size_push, s2]
  have s4 : (mk4 z.heap l t).objs.size = z.heap.objs.size + 4 := by rw [Heap.size_push, s3]
  have e5 : (mk5 z.heap l t).get? (mk4 z.heap l t).objs.size = some { cls := .type "zip", data := .fields #[.none, .bool false, .bool false, .ref (mk2 z.heap l t).objs.size, .ref (mk3 z.heap l t).objs.size] } := Heap.get?_push_size _ rfl
  have up5 : ∀ {c : Addr} {o : Obj}, (mk4 z.heap l t).get? c = some o → (mk5 z.heap l t).get? c = some o := fun e => Heap.get?_push_of_some _ e
  have up4 : ∀ {c : Addr} {o : Obj}, (mk3 z.heap l t).get? c = some o → (mk5 z.heap l t).get? c = some o := fun e => up5 (Heap.get?_push_of_some _ e)
  have up3 : ∀ {c : Addr} {o : Obj}, (mk2 z.heap l t).get? c = some o → (mk5 z.heap l t).get? c = some o := fun e => up4 (Heap.get?_push_of_some _ e)
  have up2 : ∀ {c : Addr} {o : Obj}, (mk1 z.heap l).get? c = some o → (mk5 z.heap l t).get? c = some o := fun e => up3 (Heap.get?_push_of_some _ e)
  have e4 : (mk5 z.heap l t).get? (mk3 z.heap l t).objs.size = some { cls := .type "tuple", data := .seq #[.none, .none] } := up5 (Heap.get?_push_size _ rfl)
  have e3 : (mk5 z.heap l t).get? (mk2 z.heap l t).objs.size = some { cls := .type "tuple", data := .seq #[.ref z.heap.objs.size, .ref (mk1 z.heap l).objs.size] } := up4 (Heap.get?_push_size _ rfl)
  have e2 : (mk5 z.heap l t).get? (mk1 z.heap l).objs.size = some { cls := .type "tuple_iterator", data := .fields #[.ref t, .int 0 0] } := up3 (Heap.get?_push_size _ rfl)
  have e1 : (mk5 z.heap l t).get? z.heap.objs.size = some { cls := .type "list_iterator", data := .fields #[.ref l, .int 0 0] } := up2 (Heap.get?_push_size _ rfl)
  show _ ∧ _
  rw [s2, s3, s4] at e5
  rw [s3] at e4
  rw [s1, s2] at e3
  rw [s1] at e2
  rw [s4]
  exact ⟨⟨_, e5, rfl⟩, more _ e5 e3 e4 ⟨_, e1, rfl, rfl⟩ ⟨_, e2, rfl, rfl⟩ fun c o e => up2 (Heap.get?_push_of_some _ e)⟩
end
/-- the items of the list at a and of the tuple at b, in new pairs -/
def ItzM (K : PySem.W.Frag) (a b : Addr) : It where
  go i H := ∃ (xs ys : List V) (x y : V), SqL K H a xs ∧ SqT K H b ys ∧ xs[i]? = some x ∧ ys[i]? = some y
  yld i H v H' := ∃ T x y, v = .ref T ∧ H T = none ∧ H' = upd H T (.tup [x, y]) ∧ (∀ xs, SqL K H a xs → xs[i]? = some x) ∧ ∀ ys, SqT K H b ys → ys[i]? = some y
  stop i H := ∃ xs ys : List V, SqL K H a xs ∧ SqT K H b ys ∧ xs.length = i ∧ ys.length = i
theorem five {p : Addr → Prop} {z u v i j b : Addr} (h : b ∈ [z, u, v, i, j]) (h1 : p z) (h2 : p u) (h3 : p v) (h4 : p i) (h5 : p j) : p b := by
  simp only [List.mem_cons, List.not_mem_nil, or_false] at h
  rcases h with rfl | rfl | rfl | rfl | rfl <;> assumption
theorem turn_zipM {P : Program} {w : World} {K : PySem.W.Frag} {elts : List Expr} {kk : Nat} {tpos : Pos} {a b z u v i1 i2 : Addr} (S : ZipSep2 z u v i1 i2 [i1, a] [i2, b]) :
    Turn P w K (.Tuple elts kk tpos) (ItzM K a b) [z, u, v, i1, i2] z (fun i h => IsZip h z u v .none ∧ IsTupOf2 h u (.ref i1) (.ref i2) ∧ (∃ x y, IsTupOf2 h v x y) ∧ h.IsListIter i1 a i ∧ h.IsTupleIter i2 b i) := by
  have list_ne : ∀ {h : Heap} {i : Nat} {as : Array Value}, h.IsListIter i1 a i → h.IsList a as → a ≠ i1 := by
    rintro h i as ⟨o, eo, co, _⟩ isL rfl
    obtain ⟨o', eo', co', _⟩ := isL
    rw [eo] at eo'
    cases eo'
    rw [co] at co'
    exact absurd co' (by decide)
  have tup_ne : ∀ {h : Heap} {i : Nat} {bs : Array Value}, h.IsTupleIter i2 b i → h.IsTuple b bs → b ≠ i2 := by
    rintro h i bs ⟨o, eo, co, _⟩ isT rfl
    obtain ⟨o', eo', co', _⟩ := isT
    rw [eo] at eo'
    cases eo'
    have co' : o.cls = Value.type "tuple" := co'
    rw [co] at co'
    exact absurd co' (by decide)
  refine ⟨List.mem_cons_self, fun i h st c hc => ?_, fun i h h' st same => ?_, ?_, ?_, fun A i s Q E st more => wpAny_pyIter_zip st.1 more⟩
  · obtain ⟨gz, gu, ⟨x, y, gv⟩, ⟨o1, e1, _, d1⟩, ⟨o2, e2, _, d2⟩⟩ := st
    exact five (p := fun c => ∃ o, h.get? c = some o ∧ ∀ v, o.data ≠ .cell v) hc ⟨_, gz, fun _ e => nomatch e⟩ ⟨_, gu, fun _ e => nomatch e⟩ ⟨_, gv, fun _ e => nomatch e⟩ ⟨o1, e1, fun _ e => by rw [d1] at e; exact nomatch e⟩ ⟨o2, e2, fun _ e => by rw [d2] at e; exact nomatch e⟩
  · obtain ⟨gz, gu, ⟨x, y, gv⟩, h1, h2⟩ := st
    exact ⟨same z (by simp) _ gz, same u (by simp) _ gu, ⟨x, y, same v (by simp) _ gv⟩, h1.at fun o e => same i1 (by simp) o e, h2.at fun o e => same i2 (by simp) o e⟩
  · rintro X rfl rfl rfl calm i pins s σ H E I room ⟨gz, gu, ⟨x0, y0, gv⟩, g1, g2⟩ ⟨xs, ys, x, y, isX, isY, nx, ny⟩
    obtain ⟨us, rel1, p1, _⟩ := I.list isX
    obtain ⟨vs, rel2, p2, _⟩ := I.tuple isY
    obtain ⟨c, nc, rc⟩ := rel1.get nx
    obtain ⟨d, ny', rd⟩ := rel2.get ny
    have isL : s.heap.IsList a us.toArray := p1.isList
    have isT : s.heap.IsTuple b vs.toArray := p2
    have D1 := Draws.list (prog := X.prog) (w := X.w) (A := X.A.in1) (I.ok.hd calm) i1 a (list_ne g1 isL) us.toArray
    have D2 := Draws.tuple (prog := X.prog) (w := X.w) (A := X.A.in1) (I.ok.hd calm) i2 b (tup_ne g2 isT) vs.toArray
    have in1 : i < us.toArray.size := by
      have := (List.getElem?_eq_some_iff.mp nc).1
      simpa using this
    have in2 : i < vs.toArray.size := by
      have := (List.getElem?_eq_some_iff.mp ny').1
      simpa using this
    have lz : z < s.heap.objs.size := Heap.lt_size gz
    refine wpAny_pyNext_zipD2_item S D1 D2 gz gu gv ⟨g1, isL⟩ ⟨g2, isT⟩ in1 in2 fun c' d' h1 tk ec ed gz' gv' st1 st2 newT _ kept => ?_
    obtain rfl : c' = c := by
      have ec : us.toArray[i]? = some c' := ec
      rw [List.getElem?_toArray, nc] at ec
      exact (Option.some.inj ec).symm
    obtain rfl : d' = d := by
      have ed : vs.toArray[i]? = some d' := ed
      rw [List.getElem?_toArray, ny'] at ed
      exact (Option.some.inj ed).symm
    refine ⟨_, rfl, wpAny_letOwnedTupleGo_zip (s := { s with heap := h1, toks := tk }) gz' fun h2 back same2 => ?_⟩
    have far : ∀ q o, q ∉ [z, u, v, i1, i2] → s.heap.get? q = some o → h2.get? q = some o := fun q o away e =>
      (same2.2 q fun k => away (by simp [k])).trans (kept q o (fun k => away (by simp [k])) (fun k => away (by simp [k])) (fun k => away (by simp [k])) (fun k => away (by simp [k])) e)
    have pair : ObjOk X.prog X.w (upd H s.heap.objs.size (.tup [x, y])) h2 s.heap.objs.size (.tup [x, y]) :=
      ⟨show 2 ≤ sizeLine by decide, [c', d'], .cons rc (.cons rd .nil), _, (same2.2 _ (Nat.ne_of_gt lz)).trans newT, rfl, _, rfl⟩
    refine ⟨.ref s.heap.objs.size, _, I.turnedNew (t' := tk) (ch := [z, u, v, i1, i2]) far room (Nat.le_refl _) pair, rfl, ⟨_, x, y, rfl, I.hok.fresh (Nat.le_refl _), rfl, fun l is' => ?_, fun l is' => ?_⟩, ⟨back, ?_, ⟨c', d', ?_⟩, ?_, ?_⟩, fun q hq => ?_⟩
    · rw [I.list_inj is' isX]; exact nx
    · rw [I.tuple_inj is' isY]; exact ny
    · exact (same2.2 _ S.TIz).trans (kept _ _ S.TIz S.TITO S.TIi1 S.TIi2 gu)
    · exact (same2.2 _ S.TOz).trans gv'
    · exact st1.1.at fun o e => (same2.2 _ fun k => S.zi1 k.symm).trans e
    · exact st2.1.at fun o e => (same2.2 _ fun k => S.zi2 k.symm).trans e
    · have lq : q < s.heap.objs.size := by
        obtain ⟨_, e1, _⟩ := g1
        obtain ⟨_, e2, _⟩ := g2
        exact five (p := fun q => q < s.heap.objs.size) hq lz (Heap.lt_size gu) (Heap.lt_size gv) (Heap.lt_size e1) (Heap.lt_size e2)
      rw [upd_ne (Nat.ne_of_lt lq)]
      exact (room q hq).1
  · rintro X rfl rfl rfl calm i pins s σ H E I room ⟨gz, gu, ⟨x0, y0, gv⟩, g1, g2⟩ ⟨xs, ys, isX, isY, l1, l2⟩
    obtain ⟨us, rel1, p1, _⟩ := I.list isX
    obtain ⟨vs, rel2, p2, _⟩ := I.tuple isY
    have isL : s.heap.IsList a us.toArray := p1.isList
    have isT : s.heap.IsTuple b vs.toArray := p2
    have D1 := Draws.list (prog := X.prog) (w := X.w) (A := X.A.in1) (I.ok.hd calm) i1 a (list_ne g1 isL) us.toArray
    have D2 := Draws.tuple (prog := X.prog) (w := X.w) (A := X.A.in1) (I.ok.hd calm) i2 b (tup_ne g2 isT) vs.toArray
    have n1 : i = us.toArray.size := by rw [List.size_toArray, ← rel1.length, l1]
    have n2 : i = vs.toArray.size := by rw [List.size_toArray, ← rel2.length, l2]
    refine wpAny_pyNext_zipD2_end S D1 D2 gz gu gv ⟨g1, isL⟩ ⟨g2, isT⟩ (by omega) (by omega) (.inl n1) fun h1 tk kept => ⟨rfl, ?_⟩
    exact I.turnedL (t' := tk) (ch := [z, u, v, i1, i2]) (fun c o away e => kept c o (fun k => away (by simp [k])) (fun k => away (by simp [k])) (fun k => away (by simp [k])) (fun k => away (by simp [k])) e) room
theorem sep_of (n a b : Nat) (la : a < n) (lb : b < n) : ZipSep2 (n + 4) (n + 2) (n + 3) n (n + 1) [n, a] [n + 1, b] := by
  have h1 : ¬ (n + 4 = a) := by omega
  have h2 : ¬ (n + 4 = b) := by omega
  have h3 : ¬ (n + 3 = a) := by omega
  have h4 : ¬ (n + 3 = b) := by omega
  have h5 : ¬ (n = b) := by omega
  have h6 : ¬ (n + 1 = a) := by omega
  constructor <;> simp [h1, h2, h3, h4, h5, h6]
/-- the reading of zip over a list and a tuple -/
def iZipM (K : PySem.W.Frag) (ta : TA) : TI := fun σ H R => ta σ H fun vs H1 => ∃ a b xs ys, vs = [.ref a, .ref b] ∧ SqL K H1 a xs ∧ SqT K H1 b ys ∧ R (ItzM K a b) H1
theorem pi_zipM {X : Cx} {e e2 : Expr} {ta : TA} {p pos tpos : Pos} {elts : List Expr} {kk : Nat} (hg : Gl X "zip") (hm : X.mg "zip" = none) (ha : PA X [e, e2] ta)
    (hs : starEach [e, e2] X.env = (false, eval e X.env) :: starEach [e2] X.env := by rfl) (hpl : (backTo pos (starEach [e2] X.env)).any (·.1) = false := by rfl) :
    PI X (.Tuple elts kk tpos) (.Call (.Name "zip" p) [e, e2] [] pos) (iZipM X.K ta) := by
  refine ⟨fun pins z σ H R I reading => Call_ (ld_blt I hg hm PyProof.Rows.boot_zip (PyProof.Rows.callWith_type1 (thn (ha.run pos pins z σ H _ I reading) fun us z1 got => ?_) hs hpl))⟩
  obtain ⟨vs, H1, I1, rel, a, b, xs, ys, rfl, isX, isY, q⟩ := got
  match us, rel with
  | [c, d], .cons rc (.cons rd .nil) =>
    obtain rfl : c = Value.ref a := rc
    obtain rfl : d = Value.ref b := rd
    obtain ⟨us, rel1, p1, _⟩ := I1.list isX
    obtain ⟨vs, rel2, p2, _⟩ := I1.tuple isY
    have isL : z1.heap.IsList a us.toArray := p1.isList
    have isT : z1.heap.IsTuple b vs.toArray := p2
    have la : a < z1.heap.objs.size := p1.lt
    have lb : b < z1.heap.objs.size := by
      obtain ⟨o, e, _⟩ := isT
      exact Heap.lt_size e
    refine zip_mixed isL isT fun h' gz gu gv g1 g2 kept => wpAny_pyIter_zip gz ?_
    have fresh : ∀ c ∈ [z1.heap.objs.size + 4, z1.heap.objs.size + 2, z1.heap.objs.size + 3, z1.heap.objs.size, z1.heap.objs.size + 1], FpOk X pins H1 c := fun c hc =>
      have far : z1.heap.objs.size ≤ c := five (p := fun c => z1.heap.objs.size ≤ c) hc (by omega) (by omega) (by omega) (by omega) (by omega)
      I1.fpOk far (I1.hok.fresh far)
    refine ⟨_, _, _, _, H1, rfl, I1.kept (t' := z1.toks) kept, turn_zipM (a := a) (b := b) (z := z1.heap.objs.size + 4) (u := z1.heap.objs.size + 2) (v := z1.heap.objs.size + 3) (i1 := z1.heap.objs.size) (i2 := z1.heap.objs.size + 1) ?_, ⟨gz, gu, ⟨_, _, gv⟩, g1, g2⟩, fresh, q⟩
    exact sep_of _ a b la lb
end L2.TB
namespace L2.TB
open PySem PySem.Spec PyProof.Rows
/-- a table's facts besides -/
structure Wide (ns : List Str) (tbl : List (List Int)) : Prop where
  nd : ns.Nodup
  ne : ns ≠ []
  ok : ∀ x ∈ ns, NmOk x
  l1 : ns.length ≤ 10
  l2 : tbl.length ≤ 100
  t : tbl ≠ []
def gvn (ns known : List Str) (us : List Int) : List (Key × V) := known.map fun x => ((Sum.inr x : Key), V.int (av ns us x))
theorem gvn_keys (ns known : List Str) (us : List Int) : (gvn ns known us).map (·.1) = known.map Sum.inr := by unfold gvn; rw [List.map_map]; rfl
theorem gvn_nd {ns known : List Str} {us : List Int} (nd : known.Nodup) : ((gvn ns known us).map (·.1)).Nodup := by
  rw [gvn_keys]
  exact List.Pairwise.map Sum.inr (fun a b h e => h (Sum.inr.inj e)) nd
theorem gvn_val {ns known : List Str} {us : List Int} {x : Str} (nd : known.Nodup) (h : x ∈ known) : valV (gvn ns known us) (Sum.inr x) = some (.int (av ns us x)) :=
  val_at _ _ _ (gvn_nd nd) (List.mem_map_of_mem (f := fun x => ((Sum.inr x : Key), V.int (av ns us x))) h)
theorem gvn_at {ns known : List Str} {us : List Int} {i : Nat} {k : Key} {v : V} (nd : known.Nodup) (h : (gvn ns known us)[i]? = some (k, v)) : ∃ x, k = Sum.inr x ∧ known[i]? = some x ∧ valV (gvn ns known us) (Sum.inr x) = some (.int (av ns us x)) := by
  have h2 := h
  unfold gvn at h2
  rw [List.getElem?_map] at h2
  obtain ⟨x, ex, e⟩ := Option.map_eq_some_iff.mp h2
  cases e
  exact ⟨x, rfl, ex, gvn_val nd (List.mem_of_getElem? ex)⟩
theorem gvn_len (ns known : List Str) (us : List Int) : (gvn ns known us).length = known.length := by unfold gvn; rw [List.length_map]
theorem nodup_short {known ns : List Str} (nd : known.Nodup) (sub : ∀ x ∈ known, x ∈ ns) : known.length ≤ ns.length := by
  have h := List.Nodup.length_le_of_subset nd (fun x hx => sub x hx)
  exact h
theorem dk_len {ns : List Str} {us : List Int} (h : us.length = ns.length) : (dk ns us).length = ns.length := by
  unfold dk
  rw [List.length_map, List.length_zip]; omega
/-! the table's rows as dicts -/
def spDictOf (C : Addr) : Sp := fun vs H Q _ => ∃ (a p : Addr) (ns : List Str) (tbl : List (List Int)) (us : List Int), vs = [.ref a, .ref p] ∧ TabAt H C a ns tbl ∧ ns.Nodup ∧ ns.length < 1000 ∧ H p = some (.tup (us.map V.int)) ∧ us.length = ns.length ∧ ∀ H' d, H d = none → H' d = some (.dK (dk ns us)) → Same H H' → Q (.ref d) H'
abbrev NDo : List Str := ["self", "row", "name", "answer"]
theorem scDictOf : FnScope NDo ["self", "row"] (defScope sDictOf) := ⟨rfl, rfl, rfl, by decide +kernel, rfl, by decide +kernel, by decide +kernel⟩
section
variable {P : Program} {w : World} {K : PySem.W.Frag} {mg : Str → Option Value} {base : Heap} {f C fD : Addr} {fd fdD : FuncData}
theorem ok_dictOf (F : Fun K "_dict_of" "Table._dict_of" sDictOf f fd) (T : TabC K C) (gZ : mg "zip" = none) : FnOk P w K mg base CX0 1 f fd ["self", "row"] (spDictOf C) := by
  refine F.ok scDictOf (fun vs H Q E h => by obtain ⟨a, p, ns, tbl, us, e, _⟩ := h; rw [e]; rfl) fun cdv A outer s H vs Q E hr hsp => ?_
  obtain ⟨a, p, ns, tbl, us, rfl, tab, nnd, nsh, hp, lu, hq⟩ := hsp
  obtain ⟨dx, qa, ra, ha, hqa, hra⟩ := tab.ex
  have nd := scDictOf.nd
  refine ⟨_, pss_one (ps_ret (pe_dc (own := [("name", 2), ("answer", 3)]) (tt := tYes) (g := gTup K 2 (gCons (gName 2) (gCons (gName 3) gNil))) (tk := tVar 2) (tv := tVar 3) rfl nd (pi_zipM rfl gZ (pa_cons (pe_fld (pv 0) rfl) (pa_cons (pv 1) pa_nil))) (blkOk_by (N := NDo) (sc := defScope sDictOf) (by decide +kernel))
    (fun _ _ _ _ _ => pg_tup rfl (pgs_cons (pg_name (i := 2) nd rfl (Or.inl rfl)) (pgs_cons (pg_name (i := 3) nd rfl (Or.inl rfl)) pgs_nil))) (fun _ _ _ _ _ => pts_nil) (fun _ _ _ _ _ => pv 2) (fun _ _ _ _ _ => pv 3))), ?_⟩
  have ldk : (dk ns us).length = ns.length := by
    unfold dk
    rw [List.length_map, List.length_zip]; omega
  refine ⟨_, rfl, a, C, dx, _, _, rfl, ha, T.cl, T.nQ, rfl, _, rfl, qa, p, ns.map V.str, us.map V.int, rfl, SqL.of hqa, SqT.of hp, ?_⟩
  refine dc_gen (Q := fun D H' => Q (.ref D) H') (dk ns us) (by omega) (dk_nd lu.symm nnd) (fun i H' k lt => ?_) (fun H' k => ⟨_, _, SqL.of (k _ _ hqa), SqT.of (k _ _ hp), by rw [List.length_map, ldk], by rw [List.length_map, ldk, lu]⟩) ?_ fun H' D nD oD k => hq H' D nD oD k
  · rw [ldk] at lt
    exact ⟨_, _, _, _, SqL.of (k _ _ hqa), SqT.of (k _ _ hp), List.getElem?_eq_getElem (by rw [List.length_map]; exact lt), List.getElem?_eq_getElem (by rw [List.length_map]; omega)⟩
  · rintro i x k v H2 H3 Cn Nn ekv s2 ⟨t, x1, x2, rfl, nt, rfl, g1, g2⟩ yes
    have e1 := g1 _ (SqL.of (s2 _ _ hqa))
    have e2 := g2 _ (SqT.of (s2 _ _ hp))
    obtain ⟨y, n, rfl, rfl, ey, _⟩ := dk_at ekv nnd lu.symm
    rw [List.getElem?_map, ey] at e1
    obtain rfl : V.str y = x1 := Option.some.inj e1
    have ex : x2 = V.int n := by
      unfold dk at ekv
      rw [List.getElem?_map] at ekv
      obtain ⟨z, ez, e⟩ := Option.map_eq_some_iff.mp ekv
      have ez : (ns.zip us)[i]? = some z := ez
      rw [List.getElem?_zip_eq_some] at ez
      have en : z.2 = n := V.int.inj (congrArg Prod.snd e)
      rw [List.getElem?_map, ez.2, Option.map_some, en] at e2
      exact (Option.some.inj e2).symm
    subst ex
    have st := same_new (o := .tup [V.str y, V.int n]) nt
    refine ⟨t, _, rfl, SqT.of upd_same, rfl, _, _, rfl, _, _, rfl, rfl, rfl, ?_⟩
    exact ⟨_, rfl, _, rfl, yes _ st⟩
end
end L2.TB
namespace L2.TB
open PySem PySem.Spec PyProof.Rows
/-! rows as data; worlds; own equality of two tables -/
def tupD (us : List Int) : PyData := .tuple (us.map PyData.int)
theorem intsD_shape : ∀ ks : List Int, PyData.canLayAll0 (ks.map PyData.int) = true ∧ PyData.depthAll (ks.map PyData.int) = 0
  | [] => ⟨by simp [PyData.canLayAll0], by simp [PyData.depthAll]⟩
  | b :: bs => by
    obtain ⟨h1, h2⟩ := intsD_shape bs
    exact ⟨by simp [PyData.canLayAll0, PyData.canLay0, h1], by simp [PyData.depthAll, PyData.depth, h2]⟩
theorem tupD_shape (us : List Int) : PyData.canLay0 (tupD us) = true ∧ PyData.depth (tupD us) = 1 := by
  obtain ⟨h1, h2⟩ := intsD_shape us
  unfold tupD
  exact ⟨by simp [PyData.canLay0, h1], by simp [PyData.depth, h2]⟩
theorem tupD_shaped (us : List Int) : SeqAt.shaped (tupD us) = true := by
  obtain ⟨h1, h2⟩ := tupD_shape us
  unfold SeqAt.shaped
  simp [h1, h2]
theorem rowsD_shape : ∀ tbl : List (List Int), PyData.canLayAll0 (tbl.map tupD) = true ∧ PyData.depthAll (tbl.map tupD) ≤ 1
  | [] => ⟨by simp [PyData.canLayAll0], by simp [PyData.depthAll]⟩
  | u :: us => by
    obtain ⟨h1, h2⟩ := rowsD_shape us
    obtain ⟨g1, g2⟩ := tupD_shape u
    refine ⟨by simp [PyData.canLayAll0, g1, h1], ?_⟩
    rw [List.map_cons, PyData.depthAll, g2]
    omega
theorem rowsD_shaped (tbl : List (List Int)) : SeqAt.shaped (.list (tbl.map tupD)) = true := by
  obtain ⟨h1, h2⟩ := rowsD_shape tbl
  unfold SeqAt.shaped
  have d : PyData.depth (.list (tbl.map tupD)) ≤ 2 := by
    rw [PyData.depth]
    omega
  simp [PyData.canLay0, h1]
  omega
theorem intsD_eqvAll : ∀ a b : List Int, PyData.eqvAll (a.map PyData.int) (b.map PyData.int) = decide (a = b)
  | [], [] => by simp [PyData.eqvAll]
  | [], _ :: _ => by simp [PyData.eqvAll]
  | _ :: _, [] => by simp [PyData.eqvAll]
  | x :: a, y :: b => by
    rw [List.map_cons, List.map_cons, PyData.eqvAll, intsD_eqvAll a b, PyData.eqv]
    by_cases h1 : x = y
    · by_cases h2 : a = b <;> simp [h1, h2]
    · simp [h1]
theorem tupD_eqv (a b : List Int) : PyData.eqv (tupD a) (tupD b) = decide (a = b) := by unfold tupD; rw [PyData.eqv, intsD_eqvAll]
theorem rowsD_eqvAll : ∀ a b : List (List Int), PyData.eqvAll (a.map tupD) (b.map tupD) = decide (a = b)
  | [], [] => by simp [PyData.eqvAll]
  | [], _ :: _ => by simp [PyData.eqvAll]
  | _ :: _, [] => by simp [PyData.eqvAll]
  | x :: a, y :: b => by
    rw [List.map_cons, List.map_cons, PyData.eqvAll, rowsD_eqvAll a b, tupD_eqv]
    by_cases h1 : x = y
    · by_cases h2 : a = b <;> simp [h1, h2]
    · simp [h1]
theorem rowsD_eqv (a b : List (List Int)) : PyData.eqv (.list (a.map tupD)) (.list (b.map tupD)) = decide (a = b) := by rw [PyData.eqv, rowsD_eqvAll]
theorem dpD_ints {K : PySem.W.Frag} {H : Hp} : ∀ ks : List Int, DpAll K H (ks.map V.int) (ks.map PyData.int)
  | [] => .nil
  | k :: ks => .cons (.int k) (dpD_ints ks)
theorem dpD_tup {K : PySem.W.Frag} {H : Hp} {p : Addr} {us : List Int} (h : H p = some (.tup (us.map V.int))) : Dp K H (.ref p) (tupD us) := .tup (SqT.of h) (dpD_ints us)
theorem dpD_tups {K : PySem.W.Frag} {H : Hp} {n : Nat} : ∀ {ps : List Addr} {tbl : List (List Int)}, Paired (fun p us => H p = some (.tup (us.map V.int)) ∧ us.length = n) ps tbl → DpAll K H (ps.map V.ref) (tbl.map tupD)
  | _, _, .nil => .nil
  | _, _, .cons h t => .cons (dpD_tup h.1) (dpD_tups t)
theorem dpD_rows {K : PySem.W.Frag} {H : Hp} {ra : Addr} {n : Nat} {tbl : List (List Int)} (h : TRows H ra n tbl) : Dp K H (.ref ra) (.list (tbl.map tupD)) := by
  obtain ⟨ps, o, pr⟩ := h
  exact .lst (SqL.of o) (dpD_tups pr)
theorem cut_from (xs : List V) (k : Nat) (h : k ≤ xs.length) : cutV xs (some (k : Int)) none = xs.drop k := by
  have e1 : HT.sIx xs.length 0 (some (k : Int)) = k := by
    unfold HT.sIx
    simp only []
    rw [if_neg (show ¬ (k : Int) < 0 by omega)]
    omega
  have e2 : HT.sIx xs.length xs.length none = xs.length := rfl
  unfold cutV
  rw [e1, e2]
  exact List.take_of_length_le (by rw [List.length_drop]; exact Nat.le_refl _)
theorem paired_drop {α β : Type} {R : α → β → Prop} : ∀ (k : Nat) {xs : List α} {ys : List β}, Paired R xs ys → Paired R (xs.drop k) (ys.drop k)
  | 0, _, _, h => h
  | k + 1, _, _, .nil => .nil
  | k + 1, _, _, .cons _ t => paired_drop k t
theorem gvn_rowD {ns known : List Str} {us : List Int} (pm : known.Perm ns) (nd : ns.Nodup) (l : us.length = ns.length) : RowD ns (gvn ns known us) us :=
  ⟨by rw [gvn_keys]; exact pm.map _, fun x hx => gvn_val (pm.nodup_iff.mpr nd) (pm.mem_iff.mpr hx), l⟩
/-- pairs of names and answers -/
theorem given_lc {J : It} {K : PySem.W.Frag} {g : TG} {tt : TT} {te : TE} {vs : List Nat} {σ : St} {H1 : Hp} {Q : Addr → Hp → Prop} (ns known : List Str) (us : List Int) (short : known.length < 1000) (go : ∀ i H, Same H1 H → i < known.length → J.go i H) (stop : ∀ H, Same H1 H → J.stop known.length H)
    (turn : ∀ (i : Nat) (v : V) (x : Str) (H H' : Hp) (C : V → Hp → Prop) (N : Hp → Prop), known[i]? = some x → Same H1 H → J.yld i H v H' → (∀ t H4, H4 t = some (.tup [V.str x, V.int (av ns us x)]) → Same H H4 → C (.ref t) H4) → g v (wipe σ vs) H' fun σ2 H2 => wipe σ2 vs = wipe σ vs ∧ tt σ2 H2 fun b H3 => if b = true then te σ2 H3 C else N H3)
    (fin : ∀ H D ps, H1 D = none → H D = some (.lst ((ps : List Addr).map V.ref)) → Paired (fun p (kv : Key × V) => SqT K H p [kV kv.1, kv.2]) ps (gvn ns known us) → Same H1 H → Q D H) : LcW J g tt te vs σ H1 Q := by
  refine lc_made known.length (by omega) go stop (fun i y H' => ∃ t x, y = V.ref t ∧ known[i]? = some x ∧ H' t = some (.tup [V.str x, V.int (av ns us x)])) ?_ ?_ ?_
  · rintro i y H2 H3 D l ⟨t, x, rfl, ex, ot⟩ oD keep
    exact ⟨t, x, rfl, ex, keep _ _ (ne_of ot oD (by intro z; cases z)) ot⟩
  · intro i v H2 H3 C N lt s2 yl yes
    have ex : known[i]? = some known[i] := List.getElem?_eq_getElem lt
    exact turn i v known[i] H2 H3 C N ex s2 yl fun t H4 ot s4 => yes _ _ ⟨t, _, rfl, ex, ot⟩ s4
  · intro H2 D ys nD oD ly ry s2
    obtain ⟨ps, rfl, pa⟩ := addrs_of (H := H2) (P := fun i t => ∃ x, known[i]? = some x ∧ H2 t = some (.tup [V.str x, V.int (av ns us x)])) ys 0 fun j y e => by
      obtain ⟨t, x, e1, e2, e3⟩ := ry j y e
      exact ⟨t, e1, x, by simpa using e2, e3⟩
    refine fin H2 D ps nD oD (paired_of ps _ (by rw [gvn_len, ← ly, List.length_map]) fun i t kv et ekv => ?_) s2
    obtain ⟨x, e2, e3⟩ := pa i t et
    rw [Nat.zero_add] at e2
    unfold gvn at ekv
    rw [List.getElem?_map, e2] at ekv
    obtain rfl : ((Sum.inr x : Key), V.int (av ns us x)) = kv := Option.some.inj ekv
    exact SqT.of e3
theorem gvn_merge {ns known : List Str} {us : List Int} (nd : known.Nodup) : mergeK [] (gvn ns known us) = gvn ns known us := merge_nd (gvn_nd nd)
/-- rows as dicts, apart from the spring -/
def GRowsA (H : Hp) (l ls : Addr) (ns : List Str) : List Addr → List (List Int) → Prop := Paired fun a us => (∃ kvs, H a = some (.dK kvs) ∧ RowD ns kvs us) ∧ a ≠ l ∧ a ≠ ls
theorem GRowsA.but {H H' : Hp} {l ls : Addr} {ns : List Str} {as : List Addr} {tbl : List (List Int)} (r : GRowsA H l ls ns as tbl) (b : But l ls H H') : GRowsA H' l ls ns as tbl :=
  Paired.mapP r fun a vs h => let ⟨⟨kvs, e, d⟩, h2⟩ := h; ⟨⟨kvs, b _ _ h2.1 h2.2 e, d⟩, h2⟩
theorem GRowsA.rows {H : Hp} {l ls : Addr} {ns : List Str} {as : List Addr} {tbl : List (List Int)} (r : GRowsA H l ls ns as tbl) : GRows H ns as tbl := Paired.mapP r fun a vs h => h.1
def spTurned : Sp := fun vs H Q _ => ∃ (l ls r : Addr) (as : List Addr) (ns : List Str) (tbl : List (List Int)) (N : Int), vs = [.ref l, .ref r] ∧ Strm H l ls N ∧ N ≤ 800000 ∧ H r = some (.lst (as.map V.ref)) ∧ r ≠ l ∧ r ≠ ls ∧ RowsAt H l ls ns as tbl ∧ Wide ns tbl ∧ tbl.length ≤ 20 ∧
  ∀ H' q hs, H q = none → q ≠ l → q ≠ ls → H' q = some (.lst ((hs : List Addr).map V.ref)) → GRowsA H' l ls ns hs tbl → HeadD H' ns hs → (∀ t ∈ hs, H t = none) → Strm H' l ls (N + 250) → But l ls H H' → Q (.ref q) H'
abbrev NTu : List Str := ["stream", "rows", "found", "row", "name"]
theorem scTurned : FnScope NTu ["stream", "rows"] (defScope sTurned) := ⟨rfl, rfl, rfl, by decide +kernel, rfl, by decide +kernel, by decide +kernel⟩
end L2.TB
/-! x in rows: rows are dicts of names and whole numbers -/
namespace L2.TB
open PySem PySem.Spec PyProof.Rows
section
open SeqAt MeetsSeq MeetsSeq2 MeetsSeq3 SeqRoads2
open AutoSeq1 (wpAny_loadPart')
variable {prog : Program} {w : World} {A : Around} {R : Result → Shared → Prop}
theorem has_turns (l : Addr) (xs : Array Value) (n : Nat) (x : Value) {s : Shared} (gl : s.heap.get? l = some { cls := .type "list", data := .seq xs n }) (e : Nat → Bool)
    (eqs : ∀ j (h1 : j < xs.size), EqIn prog w A.in1 s xs[j] x (e j)) (fin : R (.ok (.ret (.bool ((List.range xs.size).any e)))) s) (k : Nat) :
    ∀ i : Nat, xs.size - i = k → i ≤ xs.size → (∀ j, j < i → e j = false) → wpAny (model prog w) A.in1 (Builtin.«list.__contains__.loop» ⟨[.ref l, x, rawInt i], []⟩) (GQ.FinOf prog w A R) (fun e s' => R (.error e) s') s := by
  obtain ⟨h0, gs, ds, tk, os⟩ := s
  induction k with
  | zero =>
    intro i out le none_
    have all_ : (List.range xs.size).any e = false := by
      rw [List.any_eq_false]
      intro j hj
      have := List.mem_range.mp hj
      rw [none_ j (by omega)]
      decide
    rw [all_] at fin
    wp_walk using wpAny_loadPart' gl
    have gone : xs[((i : Nat) : Int).toNat]? = none := by simp; omega
    rw [gone]
    wp_walk
    exact fin
  | succ k more =>
    intro i left le none_
    have t1 : i < xs.size := by omega
    wp_walk using wpAny_loadPart' gl
    have here : xs[((i : Nat) : Int).toNat]? = some xs[i] := by simp [t1]
    have up : ((i : Int) + 1) = ((i + 1 : Nat) : Int) := by omega
    rw [here]
    refine wpAny_bind (eqs i t1 _ _ ?_)
    cases ei : e i with
    | true =>
      have some_ : (List.range xs.size).any e = true := List.any_eq_true.mpr ⟨i, List.mem_range.mpr t1, ei⟩
      rw [some_] at fin
      wp_walk
      exact fin
    | false =>
      wp_walk
      rw [up]
      have next := more (i + 1) (by omega) (by omega) (fun j hj => by
        by_cases z : j = i
        · rw [z]; exact ei
        · exact none_ j (by omega))
      exact ⟨plainId_quiet plain_contains_loop _, codeAny_builtin entry_contains_loop (by rw [Around.under_plainId plain_contains_loop _]; exact next)⟩
theorem has_list (l : Addr) (xs : Array Value) (n : Nat) (x : Value) {s : Shared} (gl : s.heap.get? l = some { cls := .type "list", data := .seq xs n }) (e : Nat → Bool)
    (eqs : ∀ j (h1 : j < xs.size), EqIn prog w A.in1 s xs[j] x (e j)) (fin : R (.ok (.ret (.bool ((List.range xs.size).any e)))) s) :
    wpAny (model prog w) A.in1 (Builtin.«list.__contains__» ⟨[.ref l, x], []⟩) (GQ.FinOf prog w A R) (fun e s' => R (.error e) s') s := by
  have first := has_turns l xs n x gl e eqs fin _ 0 rfl (Nat.zero_le _) (fun j h => absurd h (Nat.not_lt_zero _))
  obtain ⟨h0, gs, ds, tk, os⟩ := s
  wp_walk using wpAny_loadPart' gl
  exact ⟨plainId_quiet plain_contains_loop _, codeAny_builtin entry_contains_loop (by rw [Around.under_plainId plain_contains_loop _]; exact first)⟩
/-- a dict is no None -/
theorem none_dict {s : Shared} {a : Addr} {E : Value → Shared → Prop} {Q : Value → Shared → Prop} (ta : s.TypeIs (.ref a) "dict") (hr : A.units < cLine) (h : Q (.bool false) s) : wpAny (model prog w) A (richCompare .Eq (.ref a) .none) Q E s := by
  refine rc_eq_decline_or (k := false) ta (show s.TypeIs .none "NoneType" from rfl) (by decide) F.sub_NoneType_dict F.slot_dict_eq F.slot_NoneType_eq_refl (fun Q' hq => ?_)
    (fun Q' hq => call_gives F.slot_NoneType_eq_refl rfl F.entry_NoneType_eq (F.args_NoneType_eq_2 _ _) (NoneType___eq___none_ref_0 a) hq)
    (fun Q' hq => wpAny_of_eq (rfl : isSame (.ref a) .none = pure false) hq) (.inr hr) h
  refine wpAny_call_entry PySem.F.slot_dict_eq ta PySem.F.entry_dict_eq ?_ (PySem.F.args_dict_eq_2 _ _)
  show wpAny _ _ (Builtin.Dict.dictSlotArgs "__eq__" ⟨[.ref a, .none], []⟩ >>= fun _ => _) _ _ s
  refine wpAny_bind ?_
  unfold Builtin.Dict.dictSlotArgs
  refine wpAny_bind (wpAny_notOrdered_dict ta ?_)
  show wpAny _ _ (pure (Value.ref a, Value.none)) _ _ s
  refine wpAny_pure (wpAny_bind (wpAny_isInstance (T := "NoneType") rfl F.sub_NoneType_dict ?_))
  simp only [Bool.not_true, Bool.not_false, Bool.false_eq_true, if_false, if_true]
  exact wpAny_bind (wpAny_rule (wpAny_pure ⟨_, rfl, hq⟩))
/-- dicts of other sizes are unlike -/
theorem size_dict {s : Shared} {a b : Addr} {oa ob : Obj} {es fs : Array DictEntry} {ea eb : Nat} {E : Value → Shared → Prop} {Q : Value → Shared → Prop} (sa : (a == sysModules) = false) (sb : (b == sysModules) = false) (ta : s.TypeIs (.ref a) "dict") (tb : s.TypeIs (.ref b) "dict")
    (ga : s.heap.get? a = some oa) (gb : s.heap.get? b = some ob) (da : oa.data = .dict es ea) (db : ob.data = .dict fs eb) (ne : es.size ≠ fs.size) (hr : A.units < cLine) (h : Q (.bool false) s) : wpAny (model prog w) A (richCompare .Eq (.ref a) (.ref b)) Q E s := by
  refine wpAny_richCompare_same_room (op := .Eq) ta tb PySem.F.slot_dict_eq (wpAny_call_entry PySem.F.slot_dict_eq ta PySem.F.entry_dict_eq ?_ (PySem.F.args_dict_eq_2 _ _)) hr
  show wpAny _ _ (Builtin.Dict.dictSlotArgs "__eq__" ⟨[.ref a, .ref b], []⟩ >>= fun _ => _) _ _ s
  refine wpAny_bind ?_
  unfold Builtin.Dict.dictSlotArgs
  refine wpAny_bind (wpAny_notOrdered_dict ta ?_)
  show wpAny _ _ (pure (Value.ref a, Value.ref b)) _ _ s
  refine wpAny_pure (wpAny_bind (wpAny_isInstance (T := "dict") tb PySem.F.sub_dict_dict ?_))
  simp only [Bool.not_true, Bool.false_eq_true, if_false]
  refine wpAny_bind (wpAny_pure (wpAny_bind (wpAny_pure (wpAny_bind ?_))))
  unfold Builtin.Dict.samePairs Builtin.Dict.showsAll
  rw [if_neg (by rw [sa]; exact Bool.false_ne_true), if_neg (by rw [sb]; exact Bool.false_ne_true)]
  refine wpAny_bind (wpAny_pure (wpAny_bind (wpAny_pure (wpAny_bind (wpAny_dictEntries ga da ?_)))))
  dsimp only
  refine wpAny_bind (wpAny_dictEntries gb db ?_)
  rw [if_pos (by simpa using ne)]
  exact wpAny_bind (wpAny_rule (wpAny_pure (wpAny_pure ⟨_, rfl, (fun x => nomatch x), h⟩)))
end
theorem hits_ints {A : Around} {s : Shared} {kvs : List (Key × V)} {vb : List (Key × Value)} (rb : KV kvs vb) {ks : List (Key × V)} {va : List (Key × Value)} (ra : KV ks va) :
    (∀ p ∈ ks, ∃ m n, p.2 = V.int m ∧ valV kvs p.1 = some (.int n)) → PySem.W.KeqHits A s vb va (ks.all fun p => decide (valV kvs p.1 = some p.2)) := by
  unfold KV at ra
  induction ra with
  | nil => intro _; exact .nil
  | @cons p q ps qs h t ih =>
    intro hp
    obtain ⟨h1, h2⟩ := h
    obtain ⟨m, n, e, f⟩ := hp p List.mem_cons_self
    have rr : RelO (some (V.int n)) (valueAt vb p.1) := by rw [← f]; exact rb.val p.1
    obtain ⟨y, hy, ry⟩ := rr.some_of
    obtain ⟨k, v⟩ := q
    have h1' : p.1 = k := h1
    rw [List.all_cons, e, f]
    rw [h1'] at hy
    rw [e] at h2
    obtain ⟨t1, rfl⟩ := (show ∃ t, v = Value.int m t from h2)
    obtain ⟨t2, rfl⟩ := (show ∃ t, y = Value.int n t from ry)
    have ee : decide (some (V.int n) = some (V.int m)) = (m == n) := by
      by_cases z : m = n
      · rw [z]; simp
      · rw [decide_eq_false (fun y => z (V.int.inj (Option.some.inj y)).symm)]
        exact (beq_eq_false_iff_ne.mpr z).symm
    rw [ee]
    exact .hit hy (SeqAt.EqAt.int_int _ _ _ _) (ih fun p' hm => hp p' (List.mem_cons_of_mem _ hm))
theorem dk_same {ns : List Str} {u v : List Int} (nd : ns.Nodup) (lu : u.length = ns.length) (lv : v.length = ns.length) : ((dk ns u).all fun p => decide (valV (dk ns v) p.1 = some p.2)) = decide (u = v) := by
  by_cases e : u = v
  · subst e
    rw [decide_eq_true rfl, List.all_eq_true]
    intro p hp
    obtain ⟨i, hi, ei⟩ := List.getElem_of_mem hp
    obtain ⟨x, n, e1, e2, _, e4⟩ := dk_at (k := p.1) (v := p.2) (show (dk ns u)[i]? = some (p.1, p.2) by rw [List.getElem?_eq_getElem hi, ei]) nd lu.symm
    rw [e1, e2, e4]
    exact decide_eq_true rfl
  · rw [decide_eq_false e, List.all_eq_false]
    have some_ : ∃ x, x ∈ ns ∧ av ns u x ≠ av ns v x := Classical.byContradiction fun no => e (by
      rw [← av_all nd lu, ← av_all nd lv]
      exact List.map_inj_left.mpr fun x hx => Classical.byContradiction fun z => no ⟨x, hx, z⟩)
    obtain ⟨x, hx, ne⟩ := some_
    have a := dk_av nd lu hx
    unfold valV at a
    obtain ⟨p, ep, e2⟩ := Option.map_eq_some_iff.mp a
    refine ⟨p, List.mem_of_find?_eq_some ep, ?_⟩
    have e1 : p.1 = Sum.inr x := by
      have z := List.find?_some ep
      exact of_decide_eq_true z
    rw [e1, e2, dk_av nd lv hx]
    simp [Ne.symm ne]
/-- x in rows -/
def rInRows (w : World) : R2 := fun x y H Q => ∃ (r : Addr) (as : List Addr) (ns : List Str) (tbl : List (List Int)), y = .ref r ∧ H r = some (.lst (as.map V.ref)) ∧ DRows H ns as tbl ∧ ns.Nodup ∧
  ((∃ (d : Addr) (u : List Int), x = .ref d ∧ H d = some (.dK (dk ns u)) ∧ u.length = ns.length ∧ Q (.bl (decide (u ∈ tbl))) H) ∨
   (∃ (d : Addr) (es : List MK.En), x = .ref d ∧ H d = some (MK.DE w d es) ∧ es.length ≠ ns.length ∧ Q (.bl false) H) ∨ (x = .non ∧ Q (.bl false) H))
section
variable {X : Cx} {pins : List (Addr × Obj)} {σ : L2.St} {H : Hp} {s : Shared}
/-- each row and x -/
theorem row_eq {A : Around} (hu : A.units < cLine) (I : Inv X pins σ H s) {c : Addr} {ns : List Str} {v : List Int} {x : V} {u : Value} (rx : RelV x u) (nd : ns.Nodup) (oc : H c = some (.dK (dk ns v))) (lv : v.length = ns.length) :
    (∀ (d : Addr) (us : List Int), x = .ref d → H d = some (.dK (dk ns us)) → us.length = ns.length → SeqAt.EqIn X.prog X.w A s (.ref c) u (decide (v = us))) ∧
    (∀ (d : Addr) (es : List MK.En), x = .ref d → H d = some (MK.DE X.w d es) → es.length ≠ ns.length → SeqAt.EqIn X.prog X.w A s (.ref c) u false) ∧
    (x = .non → SeqAt.EqIn X.prog X.w A s (.ref c) u false) := by
  obtain ⟨_, sc, v1, kv1, d1⟩ := (show ObjOk X.prog X.w H s.heap c (.dK (dk ns v)) from I.hok _ _ oc)
  have tc := d1.typeIs
  refine ⟨fun d us ex od lu => ?_, fun d es ex od ne => ?_, fun ex => ?_⟩
  · subst ex
    obtain rfl : u = Value.ref d := rx
    by_cases eq : c = d
    · subst eq
      rw [oc] at od
      have same : v = us := by
        have z := HO.dK.inj (Option.some.inj od)
        have w1 := dk_same (u := v) (v := us) nd lv lu
        rw [← z, dk_same nd lv lv, decide_eq_true rfl] at w1
        exact of_decide_eq_true w1.symm
      rw [decide_eq_true same]
      exact SeqAt.EqAt.inModel (SeqAt.EqAt.same _) _ _
    · refine SeqAt.EqIn.of_refs eq fun E Q' fin => ?_
      obtain ⟨_, sd, v2, kv2, d2⟩ := (show ObjOk X.prog X.w H s.heap d (.dK (dk ns us)) from I.hok _ _ od)
      have lv12 : v1.length = v2.length := by rw [← kv1.length, ← kv2.length, dk_len lv, dk_len lu]
      have hh := hits_ints (A := A.in1) (s := s) kv2 kv1 (fun p hp => by
        obtain ⟨i, hi, ei⟩ := List.getElem_of_mem hp
        obtain ⟨y, n, e1, e2, e3, _⟩ := dk_at (k := p.1) (v := p.2) (show (dk ns v)[i]? = some (p.1, p.2) by rw [List.getElem?_eq_getElem hi, ei]) nd lv.symm
        exact ⟨n, av ns us y, e2, by rw [e1]; exact dk_av nd lu (List.mem_of_getElem? e3)⟩)
      rw [dk_same nd lv lu] at hh
      exact PySem.W.keq_eq (knd := mixKind X.prog X.w) sc sd d1 d2 hu (fun _ => hh) (by simpa [lv12] using fin)
  · subst ex
    obtain rfl : u = Value.ref d := rx
    have eq : c ≠ d := fun z => by
      rw [z, od] at oc
      unfold MK.DE MK.DX at oc
      cases oc
    refine SeqAt.EqIn.of_refs eq fun E Q' fin => ?_
    obtain ⟨sd, l1, _, rb, ⟨ob, epb, hob, xb, hdb⟩, zb, _⟩ := MK.dx_rd I.hok (.inl od)
    obtain ⟨oa, ea, epa, hoa, _, hda, _, hpa, _⟩ := id d1
    rw [List.length_map] at zb
    have sz : ea.size = ns.length := by
      have z : v1.length = ea.size := by rw [← hpa.length]; exact Array.length_toList
      rw [← z, ← kv1.length, dk_len lv]
    exact size_dict sc sd tc (MK.dx_type I (.inl od)) hoa hob hda hdb (by rw [sz, zb]; exact fun z => ne z.symm) hu fin
  · subst ex
    obtain rfl : u = Value.none := rx
    intro E Q' fin
    unfold eqBool
    refine wpAny_holding (wpAny_ite_split (fun z => absurd (eq_of_beq z) nofun) fun _ => ?_)
    exact wpAny_bind (none_dict tc hu (wpAny_truthy_bool fin))
theorem op_inRows {w : World} (hw : X.w = w) (hu : X.A.units + 64 < cLine) : OpR X (compareOp .In) (rInRows w) := by
  subst hw
  rintro pins s σ H x y v u Q I rx ry ⟨r, as, ns, tbl, rfl, hr, rows, nd, cases3⟩
  obtain rfl : u = Value.ref r := ry
  obtain ⟨z1, xs, n1, r1, g1⟩ := I.hok r _ hr
  have las : as.length = tbl.length := Paired.length rows
  have lx : xs.length = as.length := by rw [← r1.length, List.length_map]
  have each : ∀ (e : Nat → Bool), (∀ j c (w : List Int), as[j]? = some c → tbl[j]? = some w → H c = some (.dK (dk ns w)) → w.length = ns.length → SeqAt.EqIn X.prog X.w X.A.in1 s (.ref c) v (e j)) → ∀ j (h1 : j < xs.toArray.size), SeqAt.EqIn X.prog X.w X.A.in1 s xs.toArray[j] v (e j) := by
    intro e h j h1
    have j1 : j < as.length := by rw [← lx]; simpa using h1
    obtain ⟨w', ew, oc, lw⟩ := paired_get rows (List.getElem?_eq_getElem j1)
    obtain ⟨u1, e1, rel1⟩ := r1.get (show (as.map V.ref)[j]? = some (V.ref as[j]) by rw [List.getElem?_map, List.getElem?_eq_getElem j1]; rfl)
    obtain rfl : u1 = Value.ref as[j] := rel1
    have f1 : xs.toArray[j] = Value.ref as[j] := by
      have h1' : j < xs.length := by simpa using h1
      rw [List.getElem?_eq_getElem h1'] at e1
      simpa using Option.some.inj e1
    rw [f1]
    exact h j as[j] w' (List.getElem?_eq_getElem j1) ew oc lw
  have run : ∀ (e : Nat → Bool) (b : Bool), (∀ j (h1 : j < xs.toArray.size), SeqAt.EqIn X.prog X.w X.A.in1 s xs.toArray[j] v (e j)) → ((List.range xs.toArray.size).any e) = b → Q (.bl b) H → wpAny (model X.prog X.w) X.A (compareOp .In v (.ref r)) (fun z s' => ∃ y H', Inv X pins σ H' s' ∧ RelV y z ∧ Q y H') X.xe s := by
    intro e b eqs eb q
    show wpAny _ _ (do return Value.bool (← contains (.ref r) v)) _ _ s
    refine wpAny_bind (wpAny_contains_slot ⟨_, g1, rfl⟩ F.slot_list_contains (GQ.call_here F.slot_list_contains ⟨_, g1, rfl⟩ F.entry_list_contains (F.args_list_contains_2 _ _) (has_list r xs.toArray n1 v g1 e eqs ?_)))
    rw [eb]
    exact wpAny_truthy_bool (wpAny_pure ⟨.bl b, H, I, rfl, q⟩)
  have lt1 : X.A.in1.units < cLine := by show X.A.units + _ < cLine; omega
  rcases cases3 with ⟨d, us, rfl, od, lu, q⟩ | ⟨d, es, rfl, od, ne, q⟩ | ⟨rfl, q⟩
  · refine run (fun j => decide (tbl.getD j [] = us)) _ (each _ fun j c w' ec ew oc lw => ?_) ?_ q
    · rw [List.getD_eq_getElem?_getD, ew]
      exact (row_eq lt1 I rx nd oc lw).1 d us rfl od lu
    · by_cases m : us ∈ tbl
      · rw [decide_eq_true m, List.any_eq_true]
        obtain ⟨j, hj, ej⟩ := List.getElem_of_mem m
        refine ⟨j, List.mem_range.mpr (by rw [List.size_toArray]; omega), ?_⟩
        rw [List.getD_eq_getElem?_getD, List.getElem?_eq_getElem hj, ej]
        exact decide_eq_true rfl
      · rw [decide_eq_false m, List.any_eq_false]
        intro j hj z
        have hj := List.mem_range.mp hj
        rw [List.size_toArray] at hj
        have z2 := of_decide_eq_true z
        rw [List.getD_eq_getElem?_getD, List.getElem?_eq_getElem (by omega)] at z2
        have z3 : tbl[j]'(by omega) = us := z2
        exact m (z3 ▸ List.getElem_mem _)
  · refine run (fun _ => false) _ (each _ fun j c w' ec ew oc lw => (row_eq lt1 I rx nd oc lw).2.1 d es rfl od ne) ?_ q
    rw [List.any_eq_false]
    exact fun _ _ z => by cases z
  · refine run (fun _ => false) _ (each _ fun j c w' ec ew oc lw => (row_eq lt1 I rx nd oc lw).2.2 rfl) ?_ q
    rw [List.any_eq_false]
    exact fun _ _ z => by cases z
end
end L2.TB
/-! plans as lists of keys and answers -/
namespace L2.TB
open PySem PySem.Spec PyProof.Rows MK
def keyN (ks : List Int) : NestedKey := .tup (ks.map NestedKey.num)
theorem keyN_inj {a b : List Int} (h : keyN a = keyN b) : a = b := by
  unfold keyN at h
  exact (List.map_inj_right (fun x y e => NestedKey.num.inj e)).mp (NestedKey.tup.inj h)
theorem nums_depth : ∀ ks : List Int, NestedKey.depthAll (ks.map NestedKey.num) ≤ 0
  | [] => by simp [NestedKey.depthAll]
  | k :: ks => by
    have := nums_depth ks
    simp [NestedKey.depthAll, NestedKey.depth]
    omega
theorem keyN_depth (ks : List Int) : (keyN ks).depth ≤ 8 := by
  have := nums_depth ks
  unfold keyN
  simp [NestedKey.depth]
  omega
theorem keyH_ints {H : Hp} {t : Addr} {ks : List Int} (h : H t = some (.tup (ks.map V.int))) : KeyH H (keyN ks) (.ref t) := by
  refine .tup h (by rw [List.length_map, List.length_map]) fun i v k e1 e2 => ?_
  rw [List.getElem?_map] at e1 e2
  obtain ⟨n, en, rfl⟩ := Option.map_eq_some_iff.mp e1
  rw [en] at e2
  obtain rfl : NestedKey.num n = k := Option.some.inj e2
  exact .int n
abbrev Lot := List (List Int × Int)
def putL (L : Lot) (k : List Int) (v : Int) : Lot := if k ∈ L.map (·.1) then L.map fun p => if p.1 = k then (p.1, v) else p else L ++ [(k, v)]
def lotOf (ns known : List Str) (x : Str) (tbl : List (List Int)) : Lot := tbl.foldl (fun L u => putL L (keyR ns known u) (av ns u x)) []
theorem putL_mem {L : Lot} {k : List Int} {v : Int} {p : List Int × Int} (h : p ∈ putL L k v) : p ∈ L ∨ p = (k, v) := by
  unfold putL at h
  by_cases m : k ∈ L.map (·.1)
  · rw [if_pos m] at h
    obtain ⟨q, hq, e⟩ := List.mem_map.mp h
    by_cases z : q.1 = k
    · rw [if_pos z] at e
      exact .inr (by rw [← e, z])
    · rw [if_neg z] at e
      exact .inl (e ▸ hq)
  · rw [if_neg m] at h
    exact (List.mem_append.mp h).imp id List.mem_singleton.mp
theorem putL_keys {L : Lot} {k : List Int} {v : Int} : (putL L k v).map (·.1) = if k ∈ L.map (·.1) then L.map (·.1) else L.map (·.1) ++ [k] := by
  unfold putL
  by_cases m : k ∈ L.map (·.1)
  · rw [if_pos m, if_pos m, List.map_map]
    refine List.map_congr_left fun p _ => ?_
    show (if p.1 = k then (p.1, v) else p).1 = p.1
    by_cases z : p.1 = k
    · rw [if_pos z]
    · rw [if_neg z]
  · rw [if_neg m, if_neg m, List.map_append]; rfl
theorem putL_nd {L : Lot} {k : List Int} {v : Int} (h : (L.map (·.1)).Nodup) : ((putL L k v).map (·.1)).Nodup := by
  rw [putL_keys]
  by_cases z : k ∈ L.map (·.1)
  · rw [if_pos z]; exact h
  · rw [if_neg z, List.nodup_append]
    exact ⟨h, by simp, fun a ha b hb e => by rw [List.mem_singleton] at hb; rw [e, hb] at ha; exact z ha⟩
theorem putL_len (L : Lot) (k : List Int) (v : Int) : (putL L k v).length ≤ L.length + 1 := by
  unfold putL
  by_cases h : k ∈ L.map (·.1)
  · rw [if_pos h, List.length_map]; omega
  · rw [if_neg h, List.length_append]; exact Nat.le_refl _
section
variable {ns known : List Str} {x : Str}
theorem lot_snoc (tbl : List (List Int)) (u : List Int) : lotOf ns known x (tbl ++ [u]) = putL (lotOf ns known x tbl) (keyR ns known u) (av ns u x) := by
  unfold lotOf
  rw [List.foldl_append]; rfl
theorem lot_ind {P : List (List Int) → Prop} (h0 : P []) (hs : ∀ tbl u, P tbl → P (tbl ++ [u])) (tbl : List (List Int)) : P tbl := by
  have z : ∀ n, ∀ tbl : List (List Int), tbl.length = n → P tbl := fun n => by
    induction n with
    | zero => intro tbl e; rw [List.eq_nil_of_length_eq_zero e]; exact h0
    | succ n ih =>
      intro tbl e
      have ne : tbl ≠ [] := by intro q; rw [q] at e; cases e
      rw [← List.dropLast_concat_getLast ne]
      exact hs _ _ (ih _ (by rw [List.length_dropLast, e]; rfl))
  exact z _ _ rfl
theorem lot_nd (tbl : List (List Int)) : ((lotOf ns known x tbl).map (·.1)).Nodup := by
  refine lot_ind (P := fun tbl => ((lotOf ns known x tbl).map (·.1)).Nodup) List.nodup_nil (fun tbl u ih => ?_) tbl
  rw [lot_snoc]
  exact putL_nd ih
theorem lot_len (tbl : List (List Int)) : (lotOf ns known x tbl).length ≤ tbl.length := by
  refine lot_ind (P := fun tbl => (lotOf ns known x tbl).length ≤ tbl.length) (Nat.le_refl _) (fun tbl u ih => ?_) tbl
  rw [lot_snoc, List.length_append]
  have := putL_len (lotOf ns known x tbl) (keyR ns known u) (av ns u x)
  show _ ≤ tbl.length + 1
  omega
theorem lot_from (tbl : List (List Int)) : ∀ p ∈ lotOf ns known x tbl, ∃ u ∈ tbl, p.1 = keyR ns known u ∧ p.2 = av ns u x := by
  refine lot_ind (P := fun tbl => ∀ p ∈ lotOf ns known x tbl, ∃ u ∈ tbl, p.1 = keyR ns known u ∧ p.2 = av ns u x) (fun p h => by cases h) (fun tbl u ih p hp => ?_) tbl
  rw [lot_snoc] at hp
  rcases putL_mem hp with h | h
  · obtain ⟨v, hv, e⟩ := ih p h
    exact ⟨v, List.mem_append_left _ hv, e⟩
  · exact ⟨u, by simp, by rw [h], by rw [h]⟩
theorem lot_keys (tbl : List (List Int)) : ∀ u ∈ tbl, keyR ns known u ∈ (lotOf ns known x tbl).map (·.1) := by
  refine lot_ind (P := fun tbl => ∀ u ∈ tbl, keyR ns known u ∈ (lotOf ns known x tbl).map (·.1)) (fun p h => by cases h) (fun tbl v ih u hu => ?_) tbl
  rw [lot_snoc, putL_keys]
  rcases List.mem_append.mp hu with h | h
  · by_cases z : keyR ns known v ∈ (lotOf ns known x tbl).map (·.1)
    · rw [if_pos z]; exact ih u h
    · rw [if_neg z]; exact List.mem_append_left _ (ih u h)
  · rw [List.mem_singleton.mp h]
    by_cases z : keyR ns known v ∈ (lotOf ns known x tbl).map (·.1)
    · rw [if_pos z]; exact z
    · rw [if_neg z]; simp
/-- where known tells, each row finds its answer -/
theorem lot_has {tbl : List (List Int)} (T : Tells ns tbl known x) {u : List Int} (hu : u ∈ tbl) : (keyR ns known u, av ns u x) ∈ lotOf ns known x tbl := by
  obtain ⟨p, hp, e⟩ := List.mem_map.mp (lot_keys (x := x) (known := known) (ns := ns) tbl u hu)
  obtain ⟨v, hv, e1, e2⟩ := lot_from tbl p hp
  have z := T v hv u hu (by rw [← e1, e])
  have : p = (keyR ns known u, av ns u x) := by
    show (p.1, p.2) = _
    rw [e, e2, z]
  exact this ▸ hp
end
/-- an entry of a plan -/
structure PairL (H : Hp) (e : En) (p : List Int × Int) : Prop where
  k : e.1 = keyN p.1
  t : ∃ t, e.2.1 = .ref t ∧ H t = some (.tup (p.1.map V.int))
  v : e.2.2 = .int p.2
theorem PairL.mono {H H' : Hp} {e : En} {p : List Int × Int} (h : PairL H e p) (s : ∀ a vs, H a = some (.tup vs) → H' a = some (.tup vs)) : PairL H' e p := ⟨h.k, let ⟨t, e, o⟩ := h.t; ⟨t, e, s _ _ o⟩, h.v⟩
def Ens (H : Hp) : List En → Lot → Prop := Paired (PairL H)
theorem Ens.mono {H H' : Hp} {es : List En} {L : Lot} (h : Ens H es L) (s : ∀ a vs, H a = some (.tup vs) → H' a = some (.tup vs)) : Ens H' es L := Paired.mapP h fun _ _ q => q.mono s
theorem Ens.keys {H : Hp} {es : List En} {L : Lot} (h : Ens H es L) : es.map (·.1) = L.map fun p => keyN p.1 := by
  unfold Ens at h
  induction h with
  | nil => rfl
  | cons q _ ih => rw [List.map_cons, List.map_cons, ih, q.k]
theorem Ens.mem {H : Hp} {es : List En} {L : Lot} (h : Ens H es L) (k : List Int) : keyN k ∈ es.map (·.1) ↔ k ∈ L.map (·.1) := by
  rw [h.keys]
  constructor
  · intro m
    obtain ⟨p, hp, e⟩ := List.mem_map.mp m
    exact keyN_inj e ▸ List.mem_map_of_mem hp
  · intro m
    obtain ⟨p, hp, e⟩ := List.mem_map.mp m
    exact List.mem_map.mpr ⟨p, hp, by rw [e]⟩
theorem Ens.mix {H : Hp} {es : List En} {L : Lot} (h : Ens H es L) (nd : (L.map (·.1)).Nodup) : MixE H es := by
  refine ⟨fun i k p e1 e2 => ?_, ?_, fun k hk => ?_⟩
  · rw [List.getElem?_map] at e1 e2
    obtain ⟨e, ee, rfl⟩ := Option.map_eq_some_iff.mp e1
    rw [ee] at e2
    obtain rfl := Option.some.inj e2
    obtain ⟨q, eq, pq⟩ := paired_get h ee
    obtain ⟨t, et, ot⟩ := pq.t
    show KeyH H e.1 e.2.1
    rw [pq.k, et]
    exact keyH_ints ot
  · rw [h.keys]
    have z : (L.map fun p => keyN p.1) = (L.map (·.1)).map keyN := by rw [List.map_map]; rfl
    rw [z]
    exact List.Pairwise.map keyN (fun a b ne e => ne (keyN_inj e)) nd
  · rw [h.keys] at hk
    obtain ⟨p, _, e⟩ := List.mem_map.mp hk
    rw [← e]
    exact keyN_depth _
theorem Ens.put {H : Hp} {es : List En} {L : Lot} (h : Ens H es L) {t : Addr} {k : List Int} {v : Int} (ot : H t = some (.tup (k.map V.int))) : Ens H (putE es (keyN k) (.ref t) (.int v)) (putL L k v) := by
  unfold putE putL
  by_cases m : k ∈ L.map (·.1)
  · rw [if_pos ((h.mem k).mpr m), if_pos m]
    clear m
    unfold Ens at h ⊢
    induction h with
    | nil => exact .nil
    | @cons e p es L q _ ih =>
      rw [List.map_cons, List.map_cons]
      refine .cons ?_ ih
      by_cases z : p.1 = k
      · rw [if_pos z, if_pos (by rw [q.k, z])]
        exact ⟨q.k, q.t, rfl⟩
      · rw [if_neg z, if_neg (fun y => z (keyN_inj (q.k ▸ y)))]
        exact q
  · rw [if_neg (fun z => m ((h.mem k).mp z)), if_neg m]
    exact paired_snoc ⟨rfl, ⟨t, rfl, ot⟩, rfl⟩ h
/-- what a plan's key tells -/
def valN (L : Lot) (k : NestedKey) : Option V := (L.find? fun p => decide (keyN p.1 = k)).map fun p => V.int p.2
theorem Ens.val {H : Hp} {es : List En} {L : Lot} (h : Ens H es L) (k : NestedKey) : valE es k = valN L k := by
  unfold Ens at h
  unfold valE valN
  induction h with
  | nil => rfl
  | @cons e p es L q _ ih =>
    rw [List.find?_cons, List.find?_cons, q.k]
    by_cases z : keyN p.1 = k
    · rw [decide_eq_true z]
      show some e.2.2 = some (V.int p.2)
      rw [q.v]
    · rw [decide_eq_false z]
      exact ih
theorem valN_at {L : Lot} (nd : (L.map (·.1)).Nodup) {p : List Int × Int} (hp : p ∈ L) : valN L (keyN p.1) = some (.int p.2) := by
  unfold valN
  induction L with
  | nil => cases hp
  | cons q L ih =>
    rw [List.find?_cons]
    rw [List.map_cons, List.nodup_cons] at nd
    by_cases z : q = p
    · rw [z, decide_eq_true rfl]; rfl
    · have hp' : p ∈ L := (List.mem_cons.mp hp).resolve_left (fun y => z y.symm)
      have ne : ¬ keyN q.1 = keyN p.1 := fun y => nd.1 (keyN_inj y ▸ List.mem_map_of_mem (f := (·.1)) hp')
      rw [decide_eq_false ne]
      exact ih nd.2 hp'
/-- the plan at d -/
structure LotAt (w : World) (H : Hp) (d : Addr) (es : List En) (L : Lot) : Prop where
  o : H d = some (DE w d es)
  e : Ens H es L
theorem LotAt.same {w : World} {H H' : Hp} {d : Addr} {es : List En} {L : Lot} (h : LotAt w H d es L) (s : Same H H') : LotAt w H' d es L := ⟨s _ _ h.o, h.e.mono fun _ _ o => s _ _ o⟩
end L2.TB
/-! _plan_of -/
namespace L2.TB
open PySem PySem.Spec PyProof.Rows MK
theorem hu_in {k : Nat} {A : Around} (hr : Room k A) : A.in1.units + 8 < cLine := by
  have h := hr.un
  show A.units + _ + 8 < cLine
  omega
theorem hu_out {k : Nat} {A : Around} (hr : Room k A) : A.units + 8 < cLine := by
  have := hr.un
  omega
theorem dc_lot {w : World} {J : It} {g : TG} {tt : TT} {tk tv : TE} {vs : List Nat} {σ : St} {H1 : Hp} {Q : Addr → Hp → Prop} (ns known : List Str) (x : Str) (tbl : List (List Int)) (short : tbl.length < 1000) (go : ∀ i H, Same H1 H → i < tbl.length → J.go i H) (stop : ∀ H, Same H1 H → J.stop tbl.length H)
    (turn : ∀ (i : Nat) (u : List Int) (v : V) (H H' : Hp) (C : V → V → Hp → Prop) (N : Hp → Prop), tbl[i]? = some u → Same H1 H → J.yld i H v H' → (∀ t H5, Same H H5 → H5 t = some (.tup ((keyR ns known u).map V.int)) → C (.ref t) (.int (av ns u x)) H5) →
      g v (wipe σ vs) H' fun σ2 H2 => wipe σ2 vs = wipe σ vs ∧ tt σ2 H2 fun b H3 => if b = true then tk σ2 H3 fun y H4 => tv σ2 H4 fun z H5 => C y z H5 else N H3)
    (fin : ∀ H D es, H1 D = none → LotAt w H D es (lotOf ns known x tbl) → Same H1 H → Q D H) : DcXW w J g tt tk tv vs σ H1 Q := by
  intro D nD
  refine ⟨fun i m H => m = tbl.length - i ∧ i ≤ tbl.length ∧ (∃ es, LotAt w H D es (lotOf ns known x (tbl.take i))) ∧ Same H1 H, ⟨_, rfl, Nat.zero_le _, ⟨[], upd_same, .nil⟩, same_new nD⟩, ?_⟩
  rintro i m H ⟨rfl, le, ⟨es, LA⟩, s1⟩
  by_cases lt : i < tbl.length
  · refine .inr ⟨go i H s1 lt, fun H' => (∃ es, LotAt w H' D es (lotOf ns known x (tbl.take (i + 1)))) ∧ Same H1 H', fun H' h => ⟨tbl.length - (i + 1), by omega, rfl, lt, h⟩, fun v H' yl => ?_⟩
    have eu : tbl[i]? = some tbl[i] := List.getElem?_eq_getElem lt
    have et : tbl.take (i + 1) = tbl.take i ++ [tbl[i]] := by rw [List.take_succ, eu]; rfl
    refine turn i tbl[i] v H H' (fun y z H5 => StoX w D y z H5 fun H' => (∃ es, LotAt w H' D es (lotOf ns known x (tbl.take (i + 1)))) ∧ Same H1 H') _ eu s1 yl fun t H5 s5 ot => ?_
    have L5 := LA.same s5
    have ll := lot_len (ns := ns) (known := known) (x := x) (tbl.take i)
    have le5 : es.length = (lotOf ns known x (tbl.take i)).length := Paired.length L5.e
    rw [List.length_take] at ll
    refine ⟨es, keyN (keyR ns known tbl[i]), L5.o, L5.e.mix (lot_nd _), keyH_ints ot, keyN_depth _, by rw [sizeLine_eq]; omega, ⟨_, upd_same, ?_⟩, ?_⟩
    · rw [et, lot_snoc]
      refine (L5.e.put ot).mono fun a vs e => ?_
      have ne : a ≠ D := fun z => by rw [z, L5.o] at e; cases e
      rw [upd_ne ne]; exact e
    · intro b u e
      rw [upd_ne (ne_of_none e nD)]
      exact s5 _ _ (s1 _ _ e)
  · obtain rfl : i = tbl.length := by omega
    rw [List.take_length] at LA
    exact .inl ⟨stop H s1, fin H D es nD LA s1⟩
def spPlanOf (w : World) (K : PySem.W.Frag) (C : Addr) : Sp := fun vs H Q _ => ∃ (a b : Addr) (ns known : List Str) (x : Str) (tbl : List (List Int)), vs = [.ref a, .ref b, .str x] ∧ TabAt H C a ns tbl ∧ SqA K H b (known.map V.str) ∧ (∀ x ∈ known, x ∈ ns) ∧ known.length < 1000 ∧ x ∈ ns ∧ tbl.length < 1000 ∧
  ∀ H' d es, H d = none → LotAt w H' d es (lotOf ns known x tbl) → Same H H' → Q (.ref d) H'
abbrev NPo : List Str := ["self", "known", "asked", "places", "place", "row", "k"]
theorem scPlanOf : FnScope NPo ["self", "known", "asked"] (defScope sPlanOf) := ⟨rfl, rfl, rfl, by decide +kernel, rfl, by decide +kernel, by decide +kernel⟩
abbrev scPo : Scope := { kind := ScopeKind.function, names := [(Str.ofString ".0", NameKind.local), (Str.ofString "row", NameKind.cell), (Str.ofString "tuple", NameKind.globalImplicit), (Str.ofString "place", NameKind.cell), (Str.ofString "places", NameKind.cell)], isGenerator := false, isCoroutine := false }
section
variable {P : Program} {w : World} {K : PySem.W.Frag} {mg : Str → Option Value} {base : Heap} {f C fP : Addr} {fd fdP : FuncData}
theorem ok_planOf (F : Fun K "_plan_of" "Table._plan_of" sPlanOf f fd) (FP : Fun K "_places" "Table._places" sPlaces fP fdP) (mP : Meth K C "_places" fP) (T : TabC K C) (gT : mg "tuple" = none) : FnOk P w K mg base CX0 2 f fd ["self", "known", "asked"] (spPlanOf w K C) := by
  have G : FnOk P w K mg base CX0 1 fP fdP ["self", "names"] (spPlaces K C) := ok_places FP T
  have b := FP.binds (ps := ["self", "names"]) fun _ _ _ _ _ _ us hl => match us, hl with | [_, _], _ => rfl
  refine F.ok scPlanOf (fun vs H Q E h => by obtain ⟨a, b, ns, known, x, tbl, e, _⟩ := h; rw [e]; rfl) fun cdv A outer s H vs Q E hr hsp => ?_
  obtain ⟨a, bk, ns, known, x, tbl, rfl, hT, hb, sub, short, xin, shortT, hq⟩ := hsp
  have nd := scPlanOf.nd
  have hu := hu_of hr
  refine ⟨_, pss_cons (ps_set (i := 3) nd rfl (Or.inr rfl) (pe_meth (pv 0) T.cl mP G hr b .nil pass0 (pa_cons (pv 1) pa_nil)))
    (pss_cons (ps_set (i := 4) nd rfl (Or.inr rfl) (pe_bm PySem.F.plainAttrs_list PySem.F.slot_list_index PySem.F.type_list_index mt_index (pe_fld (pv 0) rfl) (pa_cons (pv 2) pa_nil)))
    (pss_one (ps_ret (pe_dcX rfl (own := [("row", 5)]) (tt := tYes) (tk := tCB (rTupOf K) (tCons (tLc (iSeq K (tVar 3)) (gName 6) tYes (tOp (rIxT K) (tVar 5) (tVar 6)) [6]) tNil)) (tv := tOp (rIxT K) (tVar 5) (tVar 4)) (hu_out hr) rfl nd (pi_list (pe_fld (pv 0) rfl)) (blkOk_by (N := NPo) (sc := defScope sPlanOf) (by decide +kernel)) (fun _ _ _ _ _ => pg_name (i := 5) nd rfl (Or.inr rfl)) (fun _ _ _ _ _ => pts_nil)
      (fun _ _ _ _ _ => pe_callTy (r := rTupOf K) call_tuple_of rfl gT boot_tuple' (pa_cons (pe_lc (own := [("k", 6)]) (tt := tYes) (g := gName 6) (wi := iSeq K (tVar 3)) (te := tOp (rIxT K) (tVar 5) (tVar 6)) rfl nd (pi_seq (pv 3)) (blkOk_by (N := NPo) (sc := scPo) (by decide +kernel)) (fun _ _ _ _ _ => pg_name (i := 6) nd rfl (Or.inl rfl)) (fun _ _ _ _ _ => pts_nil) (fun _ _ _ _ _ => pe_ix (r := rIxT K) ix_tup (pv 5) (pv 6) (fun _ _ => rfl))) pa_nil))
      (fun _ _ _ _ _ => pe_ix (r := rIxT K) ix_tup (pv 5) (pv 4) (fun _ _ => rfl)))))), ?_⟩
  obtain ⟨dx, qa, ra, ha, hqa, hra⟩ := hT.ex
  refine ⟨_, rfl, a, dx, _, rfl, ha, rfl, _, rfl, a, bk, ns, known, tbl, rfl, hT, hb, sub, short, fun H1 pl npl opl s1 => ?_⟩
  obtain ⟨i1, i2⟩ := idx_at xin
  refine ⟨_, rfl, _, _, _, _, _, rfl, s1 _ _ ha, T.cl, T.nQ, tabF_q _ _, .inl ⟨rfl, _, SqL.of (s1 _ _ hqa)⟩, _, rfl, qa, _, .str x, idx ns x, .str x, rfl, rfl, SqL.of (s1 _ _ hqa), rfl, flat_strs ns, i1, by rw [str_inj]; simp, i2, ?_⟩
  obtain ⟨ps, ora, prs⟩ := hra.same s1
  have lps : ps.length = tbl.length := Paired.length prs
  refine ⟨_, rfl, a, C, dx, _, _, rfl, s1 _ _ ha, T.cl, T.nR, rfl, ra, rfl, ⟨_, SqL.of ora⟩, dc_lot ns known x tbl shortT (fun i H' k lt => ⟨_, _, SqL.of (k _ _ ora), List.getElem?_eq_getElem (by rw [List.length_map]; omega)⟩) (fun H' k => ⟨_, SqL.of (k _ _ ora), by rw [List.length_map]; omega⟩) ?_ ?_⟩
  · rintro i u v H2 H3 Cn Nn eu s2 ⟨rfl, ev⟩ yes
    have ev := ev _ (SqL.of (s2 _ _ ora))
    rw [List.getElem?_map] at ev
    obtain ⟨p, ep, rfl⟩ := Option.map_eq_some_iff.mp ev
    obtain ⟨u', eu', op, lu⟩ := paired_get prs ep
    rw [eu] at eu'
    obtain rfl := Option.some.inj eu'
    have op2 := s2 _ _ op
    refine ⟨rfl, ?_⟩
    refine ⟨_, rfl, lc_seq (.inl rfl) (s2 _ _ opl) (by rw [List.length_map]; omega) (fun _ => true) (fun y => match y with | .int n => .int (u.getD n.toNat 0) | _ => .non) ?_ ?_⟩
    · rintro j y H4 C4 N4 ey s4 yes4 no4
      rw [List.getElem?_map] at ey
      obtain ⟨z, ez, rfl⟩ := Option.map_eq_some_iff.mp ey
      have zin : z ∈ ns := sub z (List.mem_of_getElem? ez)
      refine ⟨rfl, ?_⟩
      exact ⟨_, rfl, _, rfl, p, _, _, _, rfl, rfl, SqT.of (s4 _ _ op2), av_at zin lu, yes4 rfl H4 (Same.refl _)⟩
    · intro H4 l nl ol s4
      have ekey : ((known.map fun x => V.int (idx ns x : Nat)).filter fun _ => true).map (fun y => match y with | V.int n => V.int (u.getD n.toNat 0) | _ => V.non) = (keyR ns known u).map V.int := by
        rw [List.filter_eq_self.mpr (fun _ _ => rfl), List.map_map]
        unfold keyR
        rw [List.map_map]
        rfl
      rw [ekey] at ol
      refine ⟨l, _, rfl, .inl ⟨SqL.of ol, fun t nt => ?_⟩⟩
      have st := same_new (o := .tup ((keyR ns known u).map V.int)) nt
      have s24 := s4.trans st
      exact ⟨_, rfl, _, rfl, p, _, _, _, rfl, rfl, SqT.of (s24 _ _ op2), av_at xin lu, yes t _ s24 upd_same⟩
  · intro H2 D es nD LA s2
    exact hq H2 D es (s1.free nD) LA (s1.trans s2)
end
end L2.TB
/-! is_integer and _are_integers of plain things -/
namespace L2.TB
open PySem PySem.Spec PyProof.Rows MK
/-- a plain thing; whether it is a whole number -/
inductive Pn : V → Bool → Prop
  | int (k : Int) : Pn (.int k) true
  | bl (b : Bool) : Pn (.bl b) false
  | str (x : Str) : Pn (.str x) false
  | non : Pn .non false
/-- a key; whether it is a tuple of whole numbers -/
inductive Ky (H : Hp) : V → Bool → Prop
  | tup {t : Addr} {us : List V} {bs : List Bool} (o : H t = some (.tup us)) (p : Paired Pn us bs) (sh : us.length < 1000) : Ky H (.ref t) (bs.all id)
  | str (x : Str) : Ky H (.str x) false
theorem Ky.mono {H H' : Hp} {v : V} {b : Bool} (h : Ky H v b) (s : ∀ a vs, H a = some (.tup vs) → H' a = some (.tup vs)) : Ky H' v b := by
  cases h with
  | tup o p sh => exact .tup (s _ _ o) p sh
  | str x => exact .str x
theorem pn_ints : ∀ ks : List Int, Paired Pn (ks.map V.int) (ks.map fun _ => true)
  | [] => .nil
  | k :: ks => .cons (.int k) (pn_ints ks)
theorem ky_ints {H : Hp} {t : Addr} {ks : List Int} (o : H t = some (.tup (ks.map V.int))) (sh : ks.length < 1000) : Ky H (.ref t) true := by
  have z : ((ks.map fun _ => true).all id) = true := by rw [List.all_eq_true]; intro b hb; obtain ⟨_, _, rfl⟩ := List.mem_map.mp hb; rfl
  exact z ▸ Ky.tup o (pn_ints ks) (by rw [List.length_map]; exact sh)
def spIsIntP : Sp := fun vs H Q _ => ∃ (v : V) (b : Bool), vs = [v] ∧ Pn v b ∧ Q (.bl b) H
def spAreIntsX : Sp := fun vs H Q _ => ∃ (v : V) (b : Bool), vs = [v] ∧ Ky H v b ∧ ∀ H', Same H H' → Q (.bl b) H'
abbrev NAi : List Str := ["thing", "part"]
theorem scAreInts : FnScope NAi ["thing"] (defScope sAreInts) := ⟨rfl, rfl, rfl, by decide +kernel, rfl, by decide +kernel, by decide +kernel⟩
section
variable {P : Program} {w : World} {K : PySem.W.Frag} {mg : Str → Option Value} {base : Heap} {f fG : Addr} {fd fdG : FuncData}
theorem ok_isIntP (F : Fun K "is_integer" "is_integer" sIsInt f fd) (gI : mg "isinstance" = none) (gInt : mg "int" = none) (gB : mg "bool" = none) : FnOk P w K mg base CX0 1 f fd ["thing"] spIsIntP := by
  refine F.ok scIsInt (fun vs H Q E h => by obtain ⟨k, b, e, _⟩ := h; rw [e]; rfl) fun cdv A outer s H vs Q E hr hsp => ?_
  obtain ⟨v, b, rfl, pn, hq⟩ := hsp
  refine ⟨_, pss_one (ps_ret (pe_and (pe_callB (r := rIsi K) call_isi rfl gI boot_isi (pa_cons (pv 0) (pa_cons (pe_bltn (v := .ty "int") rfl gInt boot_int' rfl) pa_nil)))
    (pe_one (pe_not (pe_callB (r := rIsi K) call_isi rfl gI boot_isi (pa_cons (pv 0) (pa_cons (pe_bltn (v := .ty "bool") rfl gB boot_bool' rfl) pa_nil))))))), ?_⟩
  cases pn with
  | int k => exact ⟨_, rfl, _, _, _, _, true, rfl, .ty _, .base (.int k), kit_ty (by decide +kernel), true, rfl, iteT ⟨_, rfl, _, _, _, _, false, rfl, .ty _, .base (.int k), kit_ty (by decide +kernel), false, rfl, hq⟩⟩
  | bl b => exact ⟨_, rfl, _, _, _, _, true, rfl, .ty _, .base (.bl b), kit_ty (by decide +kernel), true, rfl, iteT ⟨_, rfl, _, _, _, _, true, rfl, .ty _, .base (.bl b), kit_ty (by decide +kernel), true, rfl, hq⟩⟩
  | str x => exact ⟨_, rfl, _, _, _, _, false, rfl, .ty _, .base (.str x), kit_ty (by decide +kernel), false, rfl, iteF hq⟩
  | non => exact ⟨_, rfl, _, _, _, _, false, rfl, .ty _, .base .non, kit_ty (by decide +kernel), false, rfl, iteF hq⟩
theorem ok_areIntsX (F : Fun K "_are_integers" "_are_integers" sAreInts f fd) (FG : Fun K "is_integer" "is_integer" sIsInt fG fdG) (gIG : mg "is_integer" = some (.ref fG)) (gI : mg "isinstance" = none) (gT : mg "tuple" = none) (gA : mg "all" = none) (gInt : mg "int" = none) (gB : mg "bool" = none) : FnOk P w K mg base CX0 2 f fd ["thing"] spAreIntsX := by
  have GG : FnOk P w K mg base CX0 1 fG fdG ["thing"] spIsIntP := ok_isIntP FG gI gInt gB
  have bG := FG.binds (ps := ["thing"]) fun _ _ _ _ _ _ us hl => match us, hl with | [_], _ => rfl
  refine F.ok scAreInts (fun vs H Q E h => by obtain ⟨p, us, e, _⟩ := h; rw [e]; rfl) fun cdv A outer s H vs Q E hr hsp => ?_
  obtain ⟨v, b, rfl, ky, hq⟩ := hsp
  have nd := scAreInts.nd
  refine ⟨_, pss_one (ps_ret (pe_and (pe_callB (r := rIsi K) call_isi rfl gI boot_isi (pa_cons (pv 0) (pa_cons (pe_bltn (v := .ty "tuple") rfl gT boot_tuple' rfl) pa_nil)))
    (pe_one (pe_callB (cr_all rfl) rfl gA boot_all' (pa_cons (pe_lc (own := [("part", 1)]) (tt := tYes) rfl nd (pi_seq (pv 0)) (blkOk_by (N := NAi) (sc := defScope sAreInts) (by decide +kernel)) (fun _ _ _ _ _ => pg_name (i := 1) nd rfl (Or.inl rfl)) (fun _ _ _ _ _ => pts_nil)
      (fun _ _ _ _ _ => pe_call GG hr rfl gIG FG.kp bG .nil pass0 (pa_cons (pv 1) pa_nil))) pa_nil))))), ?_⟩
  cases ky with
  | str x => exact ⟨_, rfl, _, _, _, _, false, rfl, .ty _, .base (.str x), kit_ty (by decide +kernel), false, rfl, iteF (hq H (Same.refl _))⟩
  | @tup t us bs o p sh =>
    have lp : us.length = bs.length := Paired.length p
    refine ⟨_, rfl, _, _, _, _, true, rfl, .ty _, .base (.tup o), kit_ty (by decide +kernel), _, rfl, iteT ?_⟩
    refine ⟨_, rfl, t, us, rfl, .inr ⟨SqT.of o, lc_gen (bs.map V.bl) (by rw [List.length_map]; omega) (fun i H' k lt => ⟨_, _, SqT.of (k _ _ o), List.getElem?_eq_getElem (by rw [List.length_map] at lt; omega)⟩) (fun H' k => ⟨_, SqT.of (k _ _ o), by rw [List.length_map]; omega⟩) ?_ ?_⟩⟩
    · rintro i v y H2 H3 Cn Nn ey s2 ⟨rfl, ev⟩ yes
      have ev := ev _ (SqT.of (s2 _ _ o))
      obtain ⟨bb, eb, pp⟩ := paired_get p ev
      rw [List.getElem?_map, eb] at ey
      obtain rfl : V.bl bb = y := Option.some.inj ey
      exact ⟨rfl, _, rfl, v, bb, rfl, pp, yes _ (Same.refl _)⟩
    · intro H2 D nD oD s2
      exact ⟨D, bs, rfl, SqL.of oD, hq H2 s2⟩
end
end L2.TB
/-! has_just and _is_world of rows, of dicts with more, of None -/
namespace L2.TB
open PySem PySem.Spec PyProof.Rows MK
theorem fnOr {P : Program} {w : World} {K : PySem.W.Frag} {mg : Str → Option Value} {base : Heap} {CX : CXT} {k : Nat} {f : Addr} {fd : FuncData} {ps : List Str} {sp sp1 sp2 : Sp} (F1 : FnOk P w K mg base CX k f fd ps sp1) (F2 : FnOk P w K mg base CX k f fd ps sp2)
    (h : ∀ vs H Q E, sp vs H Q E → sp1 vs H Q E ∨ sp2 vs H Q E) : FnOk P w K mg base CX k f fd ps sp :=
  ⟨fun vs H Q E q => (h _ _ _ _ q).elim (F1.len vs H Q E) (F2.len vs H Q E), fun A outer s H args us vs Q E hr he hb hv hs => (h _ _ _ _ hs).elim (F1.run A outer s H args us vs Q E hr he hb hv) (F2.run A outer s H args us vs Q E hr he hb hv)⟩
theorem pe_or {X : Cx} {e : Expr} {t1 t2 : TE} (h1 : PE X e t1) (h2 : PE X e t2) : PE X e (fun σ H Q => t1 σ H Q ∨ t2 σ H Q) := ⟨fun pins s σ H Q I h => h.elim (h1.run pins s σ H Q I) (h2.run pins s σ H Q I)⟩
/-- what may be looked at as a world -/
inductive WTh (w : World) (H : Hp) (ns : List Str) : V → Option (List Int) → Prop
  | row {d : Addr} {kvs : List (Key × V)} {us : List Int} (o : H d = some (.dK kvs)) (r : RowD ns kvs us) : WTh w H ns (.ref d) (some us)
  | more {d : Addr} {es : List En} (o : H d = some (DE w d es)) (ne : es.length ≠ ns.length) : WTh w H ns (.ref d) none
  | non : WTh w H ns .non none
theorem WTh.same {w : World} {H H' : Hp} {ns : List Str} {v : V} {o : Option (List Int)} (h : WTh w H ns v o) (s : Same H H') : WTh w H' ns v o := by
  cases h with
  | row o r => exact .row (s _ _ o) r
  | more o ne => exact .more (s _ _ o) ne
  | non => exact .non
def worldB (tbl : List (List Int)) (o : Option (List Int)) : Bool := match o with
  | some us => decide (us ∈ tbl)
  | none => false
def spHasJustO (w : World) (K : PySem.W.Frag) : Sp := fun vs H Q _ => ∃ (v : V) (c : Addr) (ns : List Str), vs = [v, .ref c] ∧ WTh w H ns v none ∧ H c = some (.lst (ns.map V.str)) ∧ ns.length < 1000 ∧ Q (.bl false) H
def spHasJustW (w : World) (K : PySem.W.Frag) : Sp := fun vs H Q _ => ∃ (v : V) (c : Addr) (ns : List Str) (o : Option (List Int)), vs = [v, .ref c] ∧ WTh w H ns v o ∧ H c = some (.lst (ns.map V.str)) ∧ ns.length < 1000 ∧ ∀ H', Same H H' → Q (.bl o.isSome) H'
def spIsWorldX (w : World) (C : Addr) : Sp := fun vs H Q _ => ∃ (a : Addr) (v : V) (ns : List Str) (tbl : List (List Int)) (o : Option (List Int)), vs = [.ref a, v] ∧ TabAt H C a ns tbl ∧ ns.Nodup ∧ ns.length < 1000 ∧ WTh w H ns v o ∧ ∀ H', Same H H' → Q (.bl (worldB tbl o)) H'
abbrev NIw : List Str := ["self", "thing", "row", "name"]
theorem scIsWorld : FnScope NIw ["self", "thing"] (defScope sIsWorld) := ⟨rfl, rfl, rfl, by decide +kernel, rfl, by decide +kernel, by decide +kernel⟩
section
variable {P : Program} {w : World} {K : PySem.W.Frag} {mg : Str → Option Value} {base : Heap} {f C fJ fA : Addr} {fd fdJ fdA : FuncData}
theorem ok_hasJustO (F : Fun K "has_just" "has_just" sHasJust f fd) (gI : mg "isinstance" = none) (gD : mg "dict" = none) (gN : mg "len" = none) (gA : mg "all" = none) : FnOk P w K mg base CX0 1 f fd ["thing", "names"] (spHasJustO w K) := by
  refine F.ok scHasJust (fun vs H Q E h => by obtain ⟨d, c, ns, e, _⟩ := h; rw [e]; rfl) fun cdv A outer s H vs Q E hr hsp => ?_
  obtain ⟨v, c, ns, rfl, W, hc, short, hq⟩ := hsp
  have nd := scHasJust.nd
  have hu := hu_of hr
  refine ⟨_, pss_one (ps_ret (pe_and (pe_or (pe_callB (r := rIsi K) call_isi rfl gI boot_isi (pa_cons (pv 0) (pa_cons (pe_bltn (v := .ty "dict") rfl gD boot_dict' rfl) pa_nil))) (pe_callB call_isiD rfl gI boot_isi (pa_cons (pv 0) (pa_cons (pe_bltn (v := .ty "dict") rfl gD boot_dict' rfl) pa_nil)))) (pe_and (pe_cmpR op_eq (pe_callB call_lenX rfl gN boot_len (pa_cons (pv 0) pa_nil)) (pe_callB call_len_seq rfl gN boot_len (pa_cons (pv 1) pa_nil)) (nomark _))
    (pe_one (pe_callB (cr_all rfl) rfl gA boot_all' (pa_cons (pe_lc (own := [("name", 2)]) (tt := tYes) rfl nd (pi_seq (pv 1)) (blkOk_by (N := NHj) (sc := defScope sHasJust) (by decide +kernel)) (fun _ _ _ _ _ => pg_name (i := 2) nd rfl (Or.inl rfl)) (fun _ _ _ _ _ => pts_nil)
      (fun _ _ _ _ _ => pe_cmp (pc_din hu (pv 2) (pv 0)))) pa_nil)))))), ?_⟩
  cases W with
  | non => exact .inl ⟨_, rfl, _, _, _, _, false, rfl, .ty _, .base .non, kit_ty (by decide +kernel), _, rfl, iteF hq⟩
  | more o ne =>
    refine .inr ⟨_, rfl, _, _, _, _, _, true, rfl, .ty _, .inl o, kit_ty (by decide +kernel), _, rfl, iteT ?_⟩
    refine ⟨_, rfl, _, _, _, rfl, .inl o, _, rfl, c, _, rfl, .inl (SqL.of hc), rfl, _, rfl, ?_⟩
    rw [dec_int2, List.length_map, List.length_map, decide_eq_false (by omega)]
    exact iteF hq
theorem ok_hasJustW (F : Fun K "has_just" "has_just" sHasJust f fd) (gI : mg "isinstance" = none) (gD : mg "dict" = none) (gN : mg "len" = none) (gA : mg "all" = none) : FnOk P w K mg base CX0 1 f fd ["thing", "names"] (spHasJustW w K) := by
  refine fnOr (ok_hasJustG F gI gD gN gA) (ok_hasJustO F gI gD gN gA) ?_
  rintro vs H Q E ⟨v, c, ns, o, rfl, W, hc, short, hq⟩
  cases o with
  | none => exact .inr ⟨v, c, ns, rfl, W, hc, short, hq H (Same.refl _)⟩
  | some us =>
    cases W with
    | row o r => exact .inl ⟨_, c, _, ns, rfl, o, hc, r.size, fun x hx => ⟨_, r.val x hx⟩, short, hq⟩
theorem ok_isWorldX (F : Fun K "_is_world" "Table._is_world" sIsWorld f fd) (T : TabC K C) (GJ : FnOk P w K mg base CX0 1 fJ fdJ ["thing", "names"] (spHasJustW w K)) (FJ : Fun K "has_just" "has_just" sHasJust fJ fdJ) (gJ : mg "has_just" = some (.ref fJ))
    (GA : FnOk P w K mg base CX0 2 fA fdA ["thing"] spAreIntsX) (FA : Fun K "_are_integers" "_are_integers" sAreInts fA fdA) (gA : mg "_are_integers" = some (.ref fA)) (gT : mg "tuple" = none) : FnOk P w K mg base CX0 3 f fd ["self", "thing"] (spIsWorldX w C) := by
  have bJ := FJ.binds (ps := ["thing", "names"]) fun _ _ _ _ _ _ us hl => match us, hl with | [_, _], _ => rfl
  have bA := FA.binds (ps := ["thing"]) fun _ _ _ _ _ _ us hl => match us, hl with | [_], _ => rfl
  refine F.ok scIsWorld (fun vs H Q E h => by obtain ⟨a, d, ns, tbl, o, e, _⟩ := h; rw [e]; rfl) fun cdv A outer s H vs Q E hr hsp => ?_
  obtain ⟨a, v, ns, tbl, o, rfl, tab, nnd, nsh, W, hq⟩ := hsp
  obtain ⟨dx, qa, ra, ha, hqa, hra⟩ := id tab.ex
  have nd := scIsWorld.nd
  have hu := hu_of hr
  have hu65 : (A.deeper (envOfC "Table._is_world" (defScope sIsWorld) s.heap.objs.size f cdv)).units + 65 < cLine := by have := hr.un; omega
  refine ⟨_, pss_cons (ps_if (pt_not (pt_val (pe_call GJ (hr.mono (by decide)) rfl gJ FJ.kp bJ .nil pass0 (pa_cons (pv 1) (pa_cons (pe_fld (pv 0) rfl) pa_nil))))) (pss_one (ps_ret pe_bl)) pss_nil)
    (pss_cons (ps_set (i := 2) nd rfl (Or.inl rfl) (pe_callTy (r := rTupOf K) call_tuple_of rfl gT boot_tuple' (pa_cons (pe_lc (own := [("name", 3)]) (tt := tYes) rfl nd (pi_list (pe_fld (pv 0) rfl)) (blkOk_by (N := NIw) (sc := defScope sIsWorld) (by decide +kernel)) (fun _ _ _ _ _ => pg_name (i := 3) nd rfl (Or.inl rfl)) (fun _ _ _ _ _ => pts_nil)
        (fun _ _ _ _ _ => pe_dget hu (pv 1) (pv 3) (fun _ _ => rfl))) pa_nil)))
    (pss_one (ps_ret (pe_and (pe_call GA hr rfl gA FA.kp bA .nil pass0 (pa_cons (pv 2) pa_nil)) (pe_one (pe_cmpR (op_inD hu65) (pv 2) (pe_fld (pv 0) rfl) rfl)))))), ?_⟩
  refine ⟨_, rfl, _, rfl, a, C, dx, _, _, rfl, ha, T.cl, T.nQ, rfl, v, qa, ns, o, rfl, W, hqa, nsh, fun H1 k1 => ⟨_, rfl, ?_⟩⟩
  cases o with
  | none => exact iteT (hq H1 k1)
  | some us =>
    refine iteF ?_
    cases W with
    | @row d kvs us od rd =>
      refine ⟨_, rfl, a, C, dx, _, _, rfl, k1 _ _ ha, T.cl, T.nQ, rfl, qa, rfl, ⟨_, SqL.of (k1 _ _ hqa)⟩, lc_gen ((ns.map (av ns us)).map V.int) (by rw [List.length_map, List.length_map]; omega) (fun j H' s lt => ⟨ns.map V.str, _, SqL.of (s _ _ (k1 _ _ hqa)), List.getElem?_eq_getElem (by rw [List.length_map, List.length_map] at lt; rw [List.length_map]; exact lt)⟩) (fun H' s => ⟨ns.map V.str, SqL.of (s _ _ (k1 _ _ hqa)), by rw [List.length_map, List.length_map, List.length_map]; omega⟩) ?_ ?_⟩
      · rintro j x y H6 H7 Cm Nm ey s6 ⟨rfl, ex⟩ yes2
        have ex := ex _ (SqL.of (s6 _ _ (k1 _ _ hqa)))
        rw [List.getElem?_map] at ex
        obtain ⟨z, ez, rfl⟩ := Option.map_eq_some_iff.mp ex
        rw [List.getElem?_map, List.getElem?_map, ez] at ey
        obtain rfl : V.int (av ns us z) = y := Option.some.inj ey
        refine ⟨rfl, ?_⟩
        exact ⟨_, rfl, _, rfl, d, _, rfl, rd.val z (List.mem_of_getElem? ez) ▸ DGet.k (k := Sum.inr z) (s6 _ _ (k1 _ _ od)), yes2 H7 (Same.refl _)⟩
      · intro H6 l nl ol s6
        rw [av_all nnd rd.len] at ol
        refine ⟨l, _, rfl, .inl ⟨SqL.of ol, fun t nt => ?_⟩⟩
        have st := same_new (o := .tup (us.map V.int)) nt
        have ot : upd H6 t (.tup (us.map V.int)) t = some (.tup (us.map V.int)) := upd_same
        have k2 := (k1.trans s6).trans st
        generalize upd H6 t (.tup (us.map V.int)) = H7 at ot k2
        refine ⟨_, rfl, .ref t, true, rfl, ky_ints ot (by rw [rd.len]; exact nsh), fun H8 k8 => ⟨_, rfl, iteT ?_⟩⟩
        have k3 := k2.trans k8
        refine ⟨_, rfl, _, rfl, a, C, dx, _, _, rfl, k3 _ _ ha, T.cl, T.nR, rfl, tupD us, tbl.map tupD, dpD_tup (k8 _ _ ot), dpD_rows (hra.same k3), tupD_shaped us, rowsD_shaped tbl, ?_⟩
        have any : ((tbl.map tupD).any fun z => PyData.eqv z (tupD us)) = decide (us ∈ tbl) := by
          rw [Bool.eq_iff_iff, List.any_eq_true, decide_eq_true_eq]
          constructor
          · rintro ⟨z, hz, e⟩
            obtain ⟨u, hu, rfl⟩ := List.mem_map.mp hz
            rw [tupD_eqv] at e
            exact of_decide_eq_true e ▸ hu
          · intro m
            exact ⟨tupD us, List.mem_map_of_mem m, by rw [tupD_eqv]; simp⟩
        rw [any]
        exact hq _ k3
end
end L2.TB
/-! plan and apart -/
namespace L2.TB
open PySem PySem.Spec PyProof.Rows MK
def spPlan (w : World) (K : PySem.W.Frag) (C : Addr) : Sp := fun vs H Q _ => ∃ (a b : Addr) (ns known : List Str) (x : Str) (tbl : List (List Int)), vs = [.ref a, .ref b, .str x] ∧ Asked K H C a b ns known tbl ∧ x ∈ ns ∧
  (Tells ns tbl known x → ∀ H' d es, H d = none → LotAt w H' d es (lotOf ns known x tbl) → Same H H' → Q (.ref d) H') ∧ (¬ Tells ns tbl known x → ∀ H', Same H H' → Q .non H')
/-- two rows that part, as dicts -/
structure PairAt (H : Hp) (t : Addr) (ns known : List Str) (tbl : List (List Int)) (x : Str) (p q : Addr) (u v : List Int) : Prop where
  o : H t = some (.tup [.ref p, .ref q])
  op : H p = some (.dK (dk ns u))
  oq : H q = some (.dK (dk ns v))
  mu : u ∈ tbl
  mv : v ∈ tbl
  lu : u.length = ns.length
  lv : v.length = ns.length
  k : keyR ns known u = keyR ns known v
  ne : av ns u x ≠ av ns v x
def spApart (K : PySem.W.Frag) (C : Addr) : Sp := fun vs H Q _ => ∃ (a b : Addr) (ns known : List Str) (x : Str) (tbl : List (List Int)), vs = [.ref a, .ref b, .str x] ∧ Asked K H C a b ns known tbl ∧ x ∈ ns ∧
  (Tells ns tbl known x → ∀ H', Same H H' → Q .non H') ∧ (¬ Tells ns tbl known x → ∀ H' t p q u v, H t = none → PairAt H' t ns known tbl x p q u v → Same H H' → Q (.ref t) H')
theorem scPlan : FnScope ["self", "known", "asked"] ["self", "known", "asked"] (defScope sPlan) := ⟨rfl, rfl, rfl, by decide +kernel, rfl, by decide +kernel, by decide +kernel⟩
theorem scApart : FnScope ["self", "known", "asked", "rows"] ["self", "known", "asked"] (defScope sApart) := ⟨rfl, rfl, rfl, by decide +kernel, rfl, by decide +kernel, by decide +kernel⟩
theorem pair_len {H : Hp} {n : Nat} : ∀ {ps : List Addr} {tbl : List (List Int)}, Paired (fun p vs => H p = some (.tup (vs.map V.int)) ∧ vs.length = n) ps tbl → ∀ u ∈ tbl, u.length = n
  | _, _, .nil, u, hu => by cases hu
  | _, _, .cons h t, u, hu => by
    rcases List.mem_cons.mp hu with rfl | hu
    · exact h.2
    · exact pair_len t u hu
theorem TRows.row_len {H : Hp} {ra : Addr} {n : Nat} {tbl : List (List Int)} (h : TRows H ra n tbl) : ∀ u ∈ tbl, u.length = n := by
  obtain ⟨ps, _, pr⟩ := h
  exact pair_len pr
section
variable {P : Program} {w : World} {K : PySem.W.Frag} {mg : Str → Option Value} {base : Heap} {f C fQ fI fPl fPr fO fD aF aL aO aK aA aB : Addr} {fd fdO fdD : FuncData}
theorem ok_plan (F : Fun K "plan" "Table.plan" sPlan f fd) (T : TabM K C fQ fI fPl fPr) (Ck : Chk K mg aF aL aO aK aA aB) (FO : Fun K "_plan_of" "Table._plan_of" sPlanOf fO fdO) (mO : Meth K C "_plan_of" fO) : FnOk P w K mg base CX0 5 f fd ["self", "known", "asked"] (spPlan w K C) := by
  obtain ⟨fdB, FB⟩ := Ck.CB
  have GB := ok_ckB (P := P) (w := w) (base := base) Ck FB
  have bB := FB.binds (ps := ["names", "known", "asked"]) fun _ _ _ _ _ _ us hl => match us, hl with | [_, _, _], _ => rfl
  obtain ⟨fdL, FL⟩ := T.L
  obtain ⟨fdR, FR⟩ := T.R
  have GR := ok_parting (P := P) (w := w) (mg := mg) (base := base) FR FL T.mL T.toTabC Ck.nT
  have bR := FR.binds (ps := ["self", "known", "asked"]) fun _ _ _ _ _ _ us hl => match us, hl with | [_, _, _], _ => rfl
  have GO := ok_planOf (P := P) (w := w) (mg := mg) (base := base) FO FL T.mL T.toTabC Ck.nT
  have bO := FO.binds (ps := ["self", "known", "asked"]) fun _ _ _ _ _ _ us hl => match us, hl with | [_, _, _], _ => rfl
  refine F.ok scPlan (fun vs H Q E h => by obtain ⟨a, b, ns, known, x, tbl, e, _⟩ := h; rw [e]; rfl) fun cdv A outer s H vs Q E hr hsp => ?_
  obtain ⟨a, b, ns, known, x, tbl, rfl, ask, xin, yes, no⟩ := hsp
  refine ⟨_, pss_cons (ps_expr (pe_call GB hr rfl Ck.gCB FB.kp bB .nil pass0 (pa_cons (pe_fld (pv 0) rfl) (pa_cons (pv 1) (pa_cons (pv 2) pa_nil)))))
    (pss_cons (ps_if (pt_cmp (pc_notN (pe_meth (pv 0) T.cl T.mR GR (hr.mono (by decide)) bR .nil pass0 (pa_cons (pv 1) (pa_cons (pv 2) pa_nil))))) (pss_one (ps_ret pe_non)) pss_nil)
    (pss_one (ps_ret (pe_meth (pv 0) T.cl mO GO (hr.mono (by decide)) bO .nil pass0 (pa_cons (pv 1) (pa_cons (pv 2) pa_nil)))))), ?_⟩
  obtain ⟨dx, qa, ra, ha, hqa, hra⟩ := ask.t.ex
  refine ⟨_, rfl, _, _, _, _, _, rfl, ha, T.cl, T.nQ, tabF_q _ _, _, rfl, _, rfl, qa, b, ns, known, x, rfl, hqa, ask.k, ask.nd, ask.sub, ask.short, xin, fun H1 s1 => ?_⟩
  refine ⟨_, rfl, a, dx, _, rfl, s1 _ _ ha, rfl, _, rfl, _, rfl, a, b, ns, known, x, tbl, rfl, ask.t.same s1, ask.k.same s1, ask.sub, ask.short, xin, ask.s2, fun tl H' s' => ?_, fun nt H' t p q u v _ _ _ _ _ _ _ _ s' => ?_⟩
  · have s2 := s1.trans s'
    exact ⟨_, rfl, iteF ⟨_, rfl, a, dx, _, rfl, s2 _ _ ha, rfl, _, rfl, _, rfl, a, b, ns, known, x, tbl, rfl, ask.t.same s2, ask.k.same s2, ask.sub, ask.short, xin, ask.s2, fun H3 d es nd LA s3 => yes tl H3 d es (s2.free nd) LA (s2.trans s3)⟩⟩
  · exact ⟨_, rfl, iteT (no nt H' (s1.trans s'))⟩
theorem ok_apart (F : Fun K "apart" "Table.apart" sApart f fd) (T : TabM K C fQ fI fPl fPr) (Ck : Chk K mg aF aL aO aK aA aB) (FD : Fun K "_dict_of" "Table._dict_of" sDictOf fD fdD) (mD : Meth K C "_dict_of" fD) (gZ : mg "zip" = none) : FnOk P w K mg base CX0 5 f fd ["self", "known", "asked"] (spApart K C) := by
  obtain ⟨fdB, FB⟩ := Ck.CB
  have GB := ok_ckB (P := P) (w := w) (base := base) Ck FB
  have bB := FB.binds (ps := ["names", "known", "asked"]) fun _ _ _ _ _ _ us hl => match us, hl with | [_, _, _], _ => rfl
  obtain ⟨fdL, FL⟩ := T.L
  obtain ⟨fdR, FR⟩ := T.R
  have GR := ok_parting (P := P) (w := w) (mg := mg) (base := base) FR FL T.mL T.toTabC Ck.nT
  have bR := FR.binds (ps := ["self", "known", "asked"]) fun _ _ _ _ _ _ us hl => match us, hl with | [_, _, _], _ => rfl
  have GD : FnOk P w K mg base CX0 1 fD fdD ["self", "row"] (spDictOf C) := ok_dictOf FD T.toTabC gZ
  have bD := FD.binds (ps := ["self", "row"]) fun _ _ _ _ _ _ us hl => match us, hl with | [_, _], _ => rfl
  refine F.ok scApart (fun vs H Q E h => by obtain ⟨a, b, ns, known, x, tbl, e, _⟩ := h; rw [e]; rfl) fun cdv A outer s H vs Q E hr hsp => ?_
  obtain ⟨a, b, ns, known, x, tbl, rfl, ask, xin, yes, no⟩ := hsp
  have nd := scApart.nd
  refine ⟨_, pss_cons (ps_expr (pe_call GB hr rfl Ck.gCB FB.kp bB .nil pass0 (pa_cons (pe_fld (pv 0) rfl) (pa_cons (pv 1) (pa_cons (pv 2) pa_nil)))))
    (pss_cons (ps_set (i := 3) nd rfl (Or.inl rfl) (pe_meth (pv 0) T.cl T.mR GR (hr.mono (by decide)) bR .nil pass0 (pa_cons (pv 1) (pa_cons (pv 2) pa_nil))))
    (pss_cons (ps_if (pt_cmp (pc_isN (pv 3))) (pss_one (ps_ret pe_non)) pss_nil)
    (pss_one (ps_ret (pe_tup (pa_cons (pe_meth (pv 0) T.cl mD GD (hr.mono (by decide)) bD .nil pass0 (pa_cons (pe_ix (r := rIxT K) ix_tup (pv 3) pe_int (fun _ _ => rfl)) pa_nil)) (pa_cons (pe_meth (pv 0) T.cl mD GD (hr.mono (by decide)) bD .nil pass0 (pa_cons (pe_ix (r := rIxT K) ix_tup (pv 3) pe_int (fun _ _ => rfl)) pa_nil)) pa_nil))))))), ?_⟩
  obtain ⟨dx, qa, ra, ha, hqa, hra⟩ := ask.t.ex
  refine ⟨_, rfl, _, _, _, _, _, rfl, ha, T.cl, T.nQ, tabF_q _ _, _, rfl, _, rfl, qa, b, ns, known, x, rfl, hqa, ask.k, ask.nd, ask.sub, ask.short, xin, fun H1 s1 => ?_⟩
  refine ⟨_, rfl, a, dx, _, rfl, s1 _ _ ha, rfl, _, rfl, _, rfl, a, b, ns, known, x, tbl, rfl, ask.t.same s1, ask.k.same s1, ask.sub, ask.short, xin, ask.s2, fun tl H' s' => ?_, fun nt H2 t p q u v nt0 ot hu hv op oq ek ea s' => ?_⟩
  · exact ⟨_, rfl, _, rfl, iteT (yes tl H' (s1.trans s'))⟩
  · have s2 := s1.trans s'
    have lu := hra.row_len u hu
    have lv := hra.row_len v hv
    refine ⟨_, rfl, _, rfl, iteF ?_⟩
    refine ⟨_, rfl, a, dx, _, rfl, s2 _ _ ha, rfl, _, rfl, t, _, (0 : Int), _, rfl, rfl, SqT.of ot, rfl, a, p, ns, tbl, u, rfl, ask.t.same s2, ask.ndn, ask.s1, op, lu, fun H3 d1 nd1 od1 s3 => ?_⟩
    have s23 := s2.trans s3
    refine ⟨_, rfl, a, dx, _, rfl, s23 _ _ ha, rfl, _, rfl, t, _, (1 : Int), _, rfl, rfl, SqT.of (s3 _ _ ot), rfl, a, q, ns, tbl, v, rfl, ask.t.same s23, ask.ndn, ask.s1, s3 _ _ oq, lv, fun H4 d2 nd2 od2 s4 => ?_⟩
    refine ⟨(by show 2 ≤ sizeLine; decide), fun tt ntt => ?_⟩
    have st := same_new (o := .tup [.ref d1, .ref d2]) ntt
    have s24 := s23.trans s4
    exact no nt _ tt d1 d2 u v (s24.free ntt) ⟨upd_same, st _ _ (s4 _ _ od1), st _ _ od2, hu, hv, lu, lv, ek, ea⟩ (s24.trans st)
end
end L2.TB
/-! is_plan -/
namespace L2.TB
open PySem PySem.Spec PyProof.Rows MK
section
variable {X : Cx} {w : World} {o i : Expr} {pos : Pos} {td ty : TE}
theorem pe_dgetXw (hw : X.w = w) (hu : X.A.in1.units + 8 < cLine) (ho : PE X o td) (hi : PE X i ty) (hs : NoSl i) : PE X (.Subscript o i pos) (tDGetX w td ty) := hw ▸ pe_dgetX hu ho hi hs
theorem call_lenXw (hw : X.w = w) : CallR X (.builtin "len") (fun xs H Q => ∃ (d : Addr) (es : List En), xs = [.ref d] ∧ Rd H d (DE w d es) ∧ Q (.int es.length) H) := by
  subst hw
  rintro pins s σ H xs us Q I r ⟨d, es, e, rd, q⟩
  exact call_lenX pins s σ H xs us Q I r ⟨d, _, _, e, rd, by rw [List.length_map]; exact q⟩
theorem pi_keysXw {tg e : Expr} (hw : X.w = w) (he : PE X e td) : PI X tg e (iKeysX w td) := hw ▸ pi_keysX he
end
theorem ty_same {K : PySem.W.Frag} {H H' : Hp} {v : V} {t : String} (h : TyX K H v (.type t)) (s : Same H H') : TyX K H' v (.type t) := by
  generalize e : Value.type t = u at h
  cases h with
  | base b =>
    refine .base ?_
    cases b with
    | non => exact .non
    | bl x => exact .bl x
    | int i => exact .int i
    | str x => exact .str x
    | flt x => exact .flt x
    | lst q => exact .lst (s _ _ q)
    | frz q => exact .frz (s _ _ q)
    | tup q => exact .tup (s _ _ q)
    | dK q => exact .dK (s _ _ q)
    | dT q => exact .dT (s _ _ q)
    | ins q => cases e
  | byt b => exact .byt b
  | set q => exact .set (s _ _ q)
  | kList q c => exact .kList q c
  | kTuple q c => exact .kTuple q c
  | kDict q c => exact .kDict q c
  | fTuple q => exact .fTuple (s _ _ q)
  | fDict q => exact .fDict (s _ _ q)
/-- what may be looked at as a plan -/
inductive PlTh (w : World) (K : PySem.W.Frag) (H : Hp) : V → Option (List En × List (Bool × Bool)) → Prop
  | odd {v : V} {t : String} (ty : TyX K H v (.type t)) (k : kitB t "dict" = some false) : PlTh w K H v none
  | dict {d : Addr} {es : List En} {ms : List (Bool × Bool)} (o : H d = some (DE w d es)) (m : MixE H es) (p : Paired (fun (e : En) (m : Bool × Bool) => Ky H e.2.1 m.1 ∧ Pn e.2.2 m.2) es ms) (sh : es.length < 1000) : PlTh w K H (.ref d) (some (es, ms))
def goodE (L : Lot) (e : En) (m : Bool × Bool) : Bool := m.1 && ((valN L e.1).isSome && (m.2 && decide (some e.2.2 = valN L e.1)))
def planB (L : Lot) (o : Option (List En × List (Bool × Bool))) : Bool := match o with
  | some p => decide (p.1.length = L.length) && (p.1.zip p.2).all fun q => goodE L q.1 q.2
  | none => false
theorem planB_some (L : Lot) (es : List En) (ms : List (Bool × Bool)) : planB L (some (es, ms)) = (decide (es.length = L.length) && (es.zip ms).all fun q => goodE L q.1 q.2) := rfl
theorem valN_int {L : Lot} {k : NestedKey} {r : V} (h : valN L k = some r) : ∃ n, r = .int n := by
  unfold valN at h
  obtain ⟨p, _, e⟩ := Option.map_eq_some_iff.mp h
  exact ⟨p.2, e.symm⟩
theorem dec_some (v : V) (n : Int) : decide (v = V.int n) = decide (some v = some (V.int n)) := by
  by_cases h : v = .int n
  · rw [h]; simp
  · rw [decide_eq_false h, decide_eq_false (fun z => h (Option.some.inj z))]
def spIsPlan (w : World) (K : PySem.W.Frag) (C : Addr) : Sp := fun vs H Q _ => ∃ (a b : Addr) (ns known : List Str) (x : Str) (tbl : List (List Int)) (v : V) (o : Option (List En × List (Bool × Bool))), vs = [.ref a, .ref b, .str x, v] ∧ Asked K H C a b ns known tbl ∧ x ∈ ns ∧ PlTh w K H v o ∧
  ∀ H', Same H H' → Q (.bl (decide (Tells ns tbl known x) && planB (lotOf ns known x tbl) o)) H'
abbrev NIp : List Str := ["self", "known", "asked", "thing", "right", "key"]
theorem scIsPlan : FnScope NIp ["self", "known", "asked", "thing"] (defScope sIsPlan) := ⟨rfl, rfl, rfl, by decide +kernel, rfl, by decide +kernel, by decide +kernel⟩
section
variable {P : Program} {w : World} {K : PySem.W.Frag} {mg : Str → Option Value} {base : Heap} {f C fQ fI fPl fPr fO fA fG aF aL aO aK aA aB : Addr} {fd fdO fdA fdG : FuncData}
theorem ok_isPlan (F : Fun K "is_plan" "Table.is_plan" sIsPlan f fd) (T : TabM K C fQ fI fPl fPr) (Ck : Chk K mg aF aL aO aK aA aB) (FO : Fun K "_plan_of" "Table._plan_of" sPlanOf fO fdO) (mO : Meth K C "_plan_of" fO)
    (FA : Fun K "_are_integers" "_are_integers" sAreInts fA fdA) (gA : mg "_are_integers" = some (.ref fA)) (GA : FnOk P w K mg base CX0 2 fA fdA ["thing"] spAreIntsX) (FG : Fun K "is_integer" "is_integer" sIsInt fG fdG) (gG : mg "is_integer" = some (.ref fG)) (GG : FnOk P w K mg base CX0 1 fG fdG ["thing"] spIsIntP)
    (nI : mg "isinstance" = none) (nD : mg "dict" = none) (nN : mg "len" = none) (nA : mg "all" = none) : FnOk P w K mg base CX0 5 f fd ["self", "known", "asked", "thing"] (spIsPlan w K C) := by
  obtain ⟨fdB, FB⟩ := Ck.CB
  have GB := ok_ckB (P := P) (w := w) (base := base) Ck FB
  have bB := FB.binds (ps := ["names", "known", "asked"]) fun _ _ _ _ _ _ us hl => match us, hl with | [_, _, _], _ => rfl
  obtain ⟨fdL, FL⟩ := T.L
  obtain ⟨fdR, FR⟩ := T.R
  have GR := ok_parting (P := P) (w := w) (mg := mg) (base := base) FR FL T.mL T.toTabC Ck.nT
  have bR := FR.binds (ps := ["self", "known", "asked"]) fun _ _ _ _ _ _ us hl => match us, hl with | [_, _, _], _ => rfl
  have GO := ok_planOf (P := P) (w := w) (mg := mg) (base := base) FO FL T.mL T.toTabC Ck.nT
  have bO := FO.binds (ps := ["self", "known", "asked"]) fun _ _ _ _ _ _ us hl => match us, hl with | [_, _, _], _ => rfl
  have bA := FA.binds (ps := ["thing"]) fun _ _ _ _ _ _ us hl => match us, hl with | [_], _ => rfl
  have bG := FG.binds (ps := ["thing"]) fun _ _ _ _ _ _ us hl => match us, hl with | [_], _ => rfl
  refine F.ok scIsPlan (fun vs H Q E h => by obtain ⟨a, b, ns, known, x, tbl, v, o, e, _⟩ := h; rw [e]; rfl) fun cdv A outer s H vs Q E hr hsp => ?_
  obtain ⟨a, b, ns, known, x, tbl, v, o, rfl, ask, xin, PT, hq⟩ := hsp
  have nd := scIsPlan.nd
  have hu := hu_in hr
  refine ⟨_, pss_cons (ps_expr (pe_call GB hr rfl Ck.gCB FB.kp bB .nil pass0 (pa_cons (pe_fld (pv 0) rfl) (pa_cons (pv 1) (pa_cons (pv 2) pa_nil)))))
    (pss_cons (ps_if (PW.pt (pw_or (pt_cmp (pc_notN (pe_meth (pv 0) T.cl T.mR GR (hr.mono (by decide)) bR .nil pass0 (pa_cons (pv 1) (pa_cons (pv 2) pa_nil)))))
        (pw_or1 (pt_not (pt_val (pe_or (pe_callB (r := rIsi K) call_isi rfl nI boot_isi (pa_cons (pv 3) (pa_cons (pe_bltn (v := .ty "dict") rfl nD boot_dict' rfl) pa_nil))) (pe_callB call_isiD rfl nI boot_isi (pa_cons (pv 3) (pa_cons (pe_bltn (v := .ty "dict") rfl nD boot_dict' rfl) pa_nil))))))))) (pss_one (ps_ret pe_bl)) pss_nil)
    (pss_cons (ps_set (i := 4) nd rfl (Or.inr rfl) (pe_meth (pv 0) T.cl mO GO (hr.mono (by decide)) bO .nil pass0 (pa_cons (pv 1) (pa_cons (pv 2) pa_nil))))
    (pss_cons (ps_if (pt_cmpR op_ne (pe_callB (call_lenXw rfl) rfl nN boot_len (pa_cons (pv 3) pa_nil)) (pe_callB (call_lenXw rfl) rfl nN boot_len (pa_cons (pv 4) pa_nil)) (nomark _)) (pss_one (ps_ret pe_bl)) pss_nil)
    (pss_one (ps_ret (pe_callB (cr_all rfl) rfl nA boot_all' (pa_cons (pe_lock (pe_lc (own := [("key", 5)]) (tt := tYes) rfl nd (pi_keysXw rfl (pv 3)) (blkOk_by (N := NIp) (sc := defScope sIsPlan) (by decide +kernel)) (fun _ _ _ _ _ => pg_name (i := 5) nd rfl (Or.inl rfl)) (fun _ _ _ _ _ => pts_nil)
      (fun _ _ _ _ _ => pe_and (pe_call GA (hr.mono (by decide)) rfl gA FA.kp bA .nil pass0 (pa_cons (pv 5) pa_nil)) (pe_and (pe_cmp (pc_dinX rfl hu (pv 5) (pv 4))) (pe_and (pe_call GG (hr.mono (by decide)) rfl gG FG.kp bG .nil pass0 (pa_cons (pe_dgetXw rfl hu (pv 3) (pv 5) (fun _ _ => rfl)) pa_nil))
        (pe_one (pe_cmpR op_eq (pe_dgetXw rfl hu (pv 3) (pv 5) (fun _ _ => rfl)) (pe_dgetXw rfl hu (pv 4) (pv 5) (fun _ _ => rfl)) (nomark _)))))))) pa_nil))))))), ?_⟩
  obtain ⟨dx, qa, ra, ha, hqa, hra⟩ := ask.t.ex
  refine ⟨_, rfl, _, _, _, _, _, rfl, ha, T.cl, T.nQ, tabF_q _ _, _, rfl, _, rfl, qa, b, ns, known, x, rfl, hqa, ask.k, ask.nd, ask.sub, ask.short, xin, fun H1 s1 => ?_⟩
  refine ⟨_, rfl, a, dx, _, rfl, s1 _ _ ha, rfl, _, rfl, _, rfl, a, b, ns, known, x, tbl, rfl, ask.t.same s1, ask.k.same s1, ask.sub, ask.short, xin, ask.s2, fun tl H2 s' => ?_, fun nt H' t p q u v _ _ _ _ _ _ _ _ s' => ?_⟩
  rotate_left
  · have z := hq H' (s1.trans s')
    rw [decide_eq_false nt, Bool.false_and] at z
    exact ⟨_, rfl, iteT z⟩
  have s2 := s1.trans s'
  rw [decide_eq_true tl, Bool.true_and] at hq
  cases PT with
  | odd ty k => exact ⟨_, rfl, iteF (.inl ⟨_, rfl, _, _, _, _, false, rfl, .ty _, ty_same ty s2, kit_ty k, _, rfl, iteT (hq H2 s2)⟩)⟩
  | @dict d es ms o m p sh =>
    refine ⟨_, rfl, iteF (.inr ⟨_, rfl, _, _, _, _, _, true, rfl, .ty _, .inl (s2 _ _ o), kit_ty (by decide +kernel), _, rfl, iteF ?_⟩)⟩
    refine ⟨_, rfl, a, dx, _, rfl, s2 _ _ ha, rfl, _, rfl, _, rfl, a, b, ns, known, x, tbl, rfl, ask.t.same s2, ask.k.same s2, ask.sub, ask.short, xin, ask.s2, fun H3 d2 rs nd2 LA s3 => ?_⟩
    have s03 := s2.trans s3
    have lr : rs.length = (lotOf ns known x tbl).length := Paired.length LA.e
    have mx2 := LA.e.mix (lot_nd (ns := ns) (known := known) (x := x) tbl)
    have lp : es.length = ms.length := Paired.length p
    have o3 := s03 _ _ o
    refine ⟨_, rfl, d, es, rfl, .inl o3, _, rfl, d2, rs, rfl, .inl LA.o, rfl, _, rfl, ?_⟩
    rw [dec_int2]
    by_cases le : (es.length : Int) = rs.length
    · rw [decide_eq_true le]
      refine iteF ?_
      have le2 : es.length = (lotOf ns known x tbl).length := by omega
      have dd : d ≠ d2 := fun z => by rw [← z, s2 _ _ o] at nd2; cases nd2
      have tk0 : ∀ a vs, H a = some (.tup vs) → H3 a = some (.tup vs) := fun a vs e => s03 _ _ e
      refine ⟨d, _, o3, trivial, fun od => ⟨_, rfl, d, od, _, _, rfl, upd_same, lc_gen ((es.zip ms).map fun q => V.bl (goodE (lotOf ns known x tbl) q.1 q.2)) (by rw [List.length_map, List.length_zip]; omega) (fun i H' k lt => ⟨k _ _ upd_same, by rw [List.length_map, List.length_zip] at lt; rw [List.length_map]; omega⟩) (fun H' k => ⟨k _ _ upd_same, by rw [List.length_map, List.length_map, List.length_zip]; omega⟩) ?_ ?_⟩⟩
      · rintro i y z H4 H5 Cn Nn ez s4 ⟨rfl, v, ev⟩ yes
        have tk : ∀ H9, Same (upd H3 d (.frz od (DE w d es))) H9 → ∀ a vs, H3 a = some (.tup vs) → H9 a = some (.tup vs) := fun H9 s9 a vs e => s9 _ _ (by
          have ne : a ≠ d := fun z => by rw [z, o3] at e; cases e
          rw [upd_ne ne]; exact e)
        rw [List.getElem?_map] at ev ez
        obtain ⟨e, ee, e12⟩ := Option.map_eq_some_iff.mp ev
        obtain ⟨mm, em, ky, pn⟩ := paired_get p ee
        rw [List.getElem?_zip_eq_some.mpr (show es[i]? = some (e, mm).1 ∧ ms[i]? = some (e, mm).2 from ⟨ee, em⟩)] at ez
        obtain rfl : V.bl (goodE (lotOf ns known x tbl) e mm) = z := Option.some.inj ez
        obtain rfl : e.2.1 = y := congrArg Prod.fst e12
        have kh := m.is_ i e.1 e.2 (by rw [List.getElem?_map, ee]; rfl) (by rw [List.getElem?_map, ee]; rfl)
        have ek : (es.map (·.1))[i]? = some e.1 := by rw [List.getElem?_map, ee]; rfl
        have dp : e.1.depth ≤ 8 := m.dp _ (List.mem_of_getElem? ek)
        have t4 := tk _ s4
        refine ⟨rfl, ?_⟩
        refine ⟨_, rfl, _, mm.1, rfl, (ky.mono tk0).mono t4, fun H6 s6 => ⟨mm.1, rfl, ?_⟩⟩
        have s46 := s4.trans s6
        have t6 := tk _ s46
        have rd6 : Rd H6 d (DE w d es) := .inr ⟨od, s46 _ _ upd_same⟩
        have rd2 : Rd H6 d2 (DE w d2 rs) := .inl (s46 _ _ (by rw [upd_ne (Ne.symm dd)]; exact LA.o))
        have mxd : MixE H6 es := (m.mono tk0).mono t6
        have mx6 : MixE H6 rs := mx2.mono t6
        have kh6 : KeyH H6 e.1 e.2.1 := (kh.mono tk0).mono t6
        have yes6 := yes
        unfold goodE at yes
        cases e1 : mm.1 with
        | false =>
          rw [e1, Bool.false_and] at yes
          exact iteF (yes H6 s6)
        | true =>
          rw [e1, Bool.true_and] at yes
          refine iteT ⟨_, rfl, _, rfl, d2, rs, e.1, rfl, rd2, mx6, kh6, dp, _, rfl, ?_⟩
          rw [Bool.false_xor, LA.e.val]
          cases e2 : valN (lotOf ns known x tbl) e.1 with
          | none =>
            rw [e2] at yes
            exact iteF (yes H6 s6)
          | some r =>
            rw [e2] at yes
            refine iteT ⟨_, rfl, _, rfl, d, _, _, e.1, i, e.2, rfl, rd6, mxd, kh6, ek, (by rw [List.getElem?_map, ee]; rfl), _, mm.2, rfl, pn, mm.2, rfl, ?_⟩
            cases e3 : mm.2 with
            | false =>
              rw [e3] at yes
              exact iteF (yes H6 s6)
            | true =>
              rw [e3] at yes pn
              obtain ⟨n, rfl⟩ := valN_int e2
              obtain ⟨k2, e4⟩ : ∃ k, e.2.2 = V.int k := by
                generalize e.2.2 = v at pn
                cases pn with
                | int k => exact ⟨k, rfl⟩
              obtain ⟨j, e', ej, ek', ev'⟩ := valE_in ((LA.e.val e.1).trans e2)
              refine iteT ⟨_, rfl, _, rfl, d, _, _, e.1, i, e.2, rfl, rd6, mxd, kh6, ek, (by rw [List.getElem?_map, ee]; rfl), _, rfl, _, rfl, d2, _, _, e.1, j, e'.2, rfl, rd2, mx6, kh6, (by rw [List.getElem?_map, ej, ← ek']; rfl), (by rw [List.getElem?_map, ej]; rfl), ?_⟩
              rw [ev', e4]
              rw [e4, ← dec_some] at yes
              exact ⟨rfl, yes H6 s6⟩
      · intro H4 D nD oD s4
        obtain ⟨b1, s34⟩ := lock_off o3 s4
        have Dd : D ≠ d := fun z => by rw [z, upd_same] at nD; cases nD
        have e : ((es.zip ms).map fun q => V.bl (goodE (lotOf ns known x tbl) q.1 q.2)) = ((es.zip ms).map fun q => goodE (lotOf ns known x tbl) q.1 q.2).map V.bl := by rw [List.map_map]; rfl
        rw [e] at oD
        refine ⟨b1, D, _, rfl, SqL.of (by rw [upd_ne Dd]; exact oD), ?_⟩
        have z := hq _ (s03.trans s34)
        rw [planB_some, decide_eq_true le2, Bool.true_and] at z
        rw [List.all_map]
        exact z
    · rw [decide_eq_false le]
      have z := hq H3 s03
      have e : planB (lotOf ns known x tbl) (some (es, ms)) = false := by
        rw [planB_some, decide_eq_false (by omega), Bool.false_and]
      rw [e] at z
      exact iteT z
end
end L2.TB
/-! found -/
namespace L2.TB
open PySem PySem.Spec PyProof.Rows MK
theorem ens_good {w : World} {K : PySem.W.Frag} {H : Hp} {L0 : Lot} (nd0 : (L0.map (·.1)).Nodup) : ∀ {es : List En} {L : Lot}, Paired (PairL H) es L → (∀ p ∈ L, p ∈ L0 ∧ p.1.length < 1000) → Paired (fun (e : En) (m : Bool × Bool) => Ky H e.2.1 m.1 ∧ Pn e.2.2 m.2) es (List.replicate es.length (true, true)) ∧ ((es.zip (List.replicate es.length (true, true))).all fun q => goodE L0 q.1 q.2) = true
  | _, _, .nil, _ => ⟨.nil, rfl⟩
  | _, _, @Paired.cons _ _ _ e p es L h t, sub => by
    obtain ⟨h1, h2⟩ := ens_good (w := w) (K := K) nd0 t fun p hp => sub p (List.mem_cons_of_mem _ hp)
    obtain ⟨s1, s2⟩ := sub p List.mem_cons_self
    rw [List.length_cons, List.replicate_succ, List.zip_cons_cons, List.all_cons]
    obtain ⟨tt, et, ot⟩ := h.t
    refine ⟨.cons ⟨et ▸ ky_ints ot s2, h.v ▸ .int _⟩ h1, ?_⟩
    rw [h2, Bool.and_true]
    show goodE L0 e (true, true) = true
    unfold goodE
    rw [h.k, valN_at nd0 s1, h.v]
    simp
theorem lot_plan {w : World} {K : PySem.W.Frag} {H : Hp} {d : Addr} {es : List En} {L : Lot} (LA : LotAt w H d es L) (nd : (L.map (·.1)).Nodup) (sh : ∀ p ∈ L, p.1.length < 1000) (few : L.length < 1000) :
    PlTh w K H (.ref d) (some (es, List.replicate es.length (true, true))) ∧ planB L (some (es, List.replicate es.length (true, true))) = true := by
  have le : es.length = L.length := Paired.length LA.e
  obtain ⟨h1, h2⟩ := ens_good (w := w) (K := K) nd LA.e fun p hp => ⟨hp, sh p hp⟩
  refine ⟨.dict LA.o (LA.e.mix nd) h1 (by omega), ?_⟩
  rw [planB_some, h2, decide_eq_true le]
  rfl
theorem lot_short {ns known : List Str} {x : Str} {tbl : List (List Int)} (sh : known.length < 1000) : ∀ p ∈ lotOf ns known x tbl, p.1.length < 1000 := fun p hp => by
  obtain ⟨u, _, e, _⟩ := lot_from tbl p hp
  rw [e]
  unfold keyR
  rw [List.length_map]
  exact sh
/-- answers at hand, and more -/
structure GivAt (w : World) (H : Hp) (g : Addr) (gs : List En) (f : Str → Int) (known : List Str) : Prop where
  o : H g = some (DE w g gs)
  m : MixE H gs
  v : ∀ x ∈ known, valE gs (.text x) = some (.int (f x))
theorem GivAt.same {w : World} {H H' : Hp} {g : Addr} {gs : List En} {f : Str → Int} {known : List Str} (h : GivAt w H g gs f known) (s : Same H H') : GivAt w H' g gs f known := ⟨s _ _ h.o, h.m.mono fun _ _ e => s _ _ e, h.v⟩
def spLack (w : World) (K : PySem.W.Frag) : Sp := fun vs H Q _ => ∃ (b g : Addr) (known : List Str) (gs : List En) (f : Str → Int), vs = [.ref b, .ref g] ∧ SqA K H b (known.map V.str) ∧ known.length < 1000 ∧ GivAt w H g gs f known ∧ ∀ H', Same H H' → Q .non H'
def spFound (w : World) (K : PySem.W.Frag) (C : Addr) : Sp := fun vs H Q _ => ∃ (a b d g : Addr) (ns known : List Str) (x : Str) (tbl : List (List Int)) (es gs : List En) (us : List Int), vs = [.ref a, .ref b, .str x, .ref d, .ref g] ∧ Asked K H C a b ns known tbl ∧ x ∈ ns ∧ Tells ns tbl known x ∧
  LotAt w H d es (lotOf ns known x tbl) ∧ us ∈ tbl ∧ GivAt w H g gs (av ns us) known ∧ ∀ H', Same H H' → Q (.int (av ns us x)) H'
abbrev NLk : List Str := ["known", "answers", "name"]
theorem scLack : FnScope NLk ["known", "answers"] (defScope sCkLack) := ⟨rfl, rfl, rfl, by decide +kernel, rfl, by decide +kernel, by decide +kernel⟩
abbrev NFo : List Str := ["self", "known", "asked", "plan", "answers", "key", "name"]
theorem scFound : FnScope NFo ["self", "known", "asked", "plan", "answers"] (defScope sFound) := ⟨rfl, rfl, rfl, by decide +kernel, rfl, by decide +kernel, by decide +kernel⟩
section
variable {P : Program} {w : World} {K : PySem.W.Frag} {mg : Str → Option Value} {base : Heap} {f C fP fA fL : Addr} {fd fdP fdA fdL : FuncData}
theorem ok_lack (F : Fun K "check_lacking" "check_lacking" sCkLack f fd) (nI : mg "isinstance" = none) (nD : mg "dict" = none) (nA : mg "all" = none) : FnOk P w K mg base CX0 1 f fd ["known", "answers"] (spLack w K) := by
  refine F.ok scLack (fun vs H Q E h => by obtain ⟨b, g, known, gs, f, e, _⟩ := h; rw [e]; rfl) fun cdv A outer s H vs Q E hr hsp => ?_
  obtain ⟨b, g, known, gs, ff, rfl, hb, sh, G, hq⟩ := hsp
  have nd := scLack.nd
  have hu := hu_in hr
  refine ⟨_, pss_one (ps_if (PW.pt (pw_or (pt_not (pt_val (pe_callB call_isiD rfl nI boot_isi (pa_cons (pv 1) (pa_cons (pe_bltn (v := .ty "dict") rfl nD boot_dict' rfl) pa_nil)))))
      (pw_or1 (pt_not (pt_val (pe_callB (cr_all rfl) rfl nA boot_all' (pa_cons (pe_lc (own := [("name", 2)]) (tt := tYes) rfl nd (pi_seq (pv 0)) (blkOk_by (N := NLk) (sc := defScope sCkLack) (by decide +kernel)) (fun _ _ _ _ _ => pg_name (i := 2) nd rfl (Or.inl rfl)) (fun _ _ _ _ _ => pts_nil)
        (fun _ _ _ _ _ => pe_cmp (pc_dinX rfl hu (pv 2) (pv 1)))) pa_nil))))))) (pss_one ps_never) pss_nil), ?_⟩
  refine ⟨_, rfl, _, _, _, _, _, true, rfl, .ty _, .inl G.o, kit_ty (by decide +kernel), _, rfl, iteF ?_⟩
  obtain ⟨o, ho, ko⟩ := hb.ho
  refine ⟨_, rfl, lc_seq ko ho (by rw [List.length_map]; omega) (fun _ => true) (fun _ => .bl true) ?_ ?_⟩
  · rintro i v H2 Cn Nn ev s2 yes no
    rw [List.getElem?_map] at ev
    obtain ⟨x, ex, rfl⟩ := Option.map_eq_some_iff.mp ev
    refine ⟨rfl, ?_⟩
    have G2 := G.same s2
    refine ⟨_, rfl, _, rfl, g, gs, .text x, rfl, .inl G2.o, G2.m, .str x, by simp [NestedKey.depth], ?_⟩
    rw [G.v x (List.mem_of_getElem? ex)]
    exact yes rfl H2 (Same.refl _)
  · intro H2 D nD oD s2
    rw [const_map, bools_map] at oD
    refine ⟨D, _, rfl, SqL.of oD, _, rfl, ?_⟩
    rw [all_true]
    exact iteF (hq H2 s2)
theorem ok_found (F : Fun K "found" "Table.found" sFound f fd) (T : TabC K C) (FP : Fun K "is_plan" "Table.is_plan" sIsPlan fP fdP) (mP : Meth K C "is_plan" fP) (GP : FnOk P w K mg base CX0 5 fP fdP ["self", "known", "asked", "thing"] (spIsPlan w K C))
    (FL : Fun K "check_lacking" "check_lacking" sCkLack fL fdL) (gL : mg "check_lacking" = some (.ref fL)) (GL : FnOk P w K mg base CX0 1 fL fdL ["known", "answers"] (spLack w K))
    (FA : Fun K "_are_integers" "_are_integers" sAreInts fA fdA) (gA : mg "_are_integers" = some (.ref fA)) (GA : FnOk P w K mg base CX0 2 fA fdA ["thing"] spAreIntsX) (nT : mg "tuple" = none) : FnOk P w K mg base CX0 6 f fd ["self", "known", "asked", "plan", "answers"] (spFound w K C) := by
  have bP := FP.binds (ps := ["self", "known", "asked", "thing"]) fun _ _ _ _ _ _ us hl => match us, hl with | [_, _, _, _], _ => rfl
  have bL := FL.binds (ps := ["known", "answers"]) fun _ _ _ _ _ _ us hl => match us, hl with | [_, _], _ => rfl
  have bA := FA.binds (ps := ["thing"]) fun _ _ _ _ _ _ us hl => match us, hl with | [_], _ => rfl
  refine F.ok scFound (fun vs H Q E h => by obtain ⟨a, b, d, g, ns, known, x, tbl, es, gs, us, e, _⟩ := h; rw [e]; rfl) fun cdv A outer s H vs Q E hr hsp => ?_
  obtain ⟨a, b, d, g, ns, known, x, tbl, es, gs, us, rfl, ask, xin, tl, LA, uin, G, hq⟩ := hsp
  have nd := scFound.nd
  have hu := hu_in hr
  refine ⟨_, pss_cons (ps_if (pt_not (pt_val (pe_meth (pv 0) T.cl mP GP (hr.mono (by decide)) bP .nil pass0 (pa_cons (pv 1) (pa_cons (pv 2) (pa_cons (pv 3) pa_nil)))))) (pss_one ps_never) pss_nil)
    (pss_cons (ps_expr (pe_call GL (hr.mono (by decide)) rfl gL FL.kp bL .nil pass0 (pa_cons (pv 1) (pa_cons (pv 4) pa_nil))))
    (pss_cons (ps_set (i := 5) nd rfl (Or.inl rfl) (pe_callTy (r := rTupOf K) call_tuple_of rfl nT boot_tuple' (pa_cons (pe_lc (own := [("name", 6)]) (tt := tYes) rfl nd (pi_seq (pv 1)) (blkOk_by (N := NFo) (sc := defScope sFound) (by decide +kernel)) (fun _ _ _ _ _ => pg_name (i := 6) nd rfl (Or.inl rfl)) (fun _ _ _ _ _ => pts_nil)
        (fun _ _ _ _ _ => pe_dgetXw rfl hu (pv 4) (pv 6) (fun _ _ => rfl))) pa_nil)))
    (pss_cons (ps_if (PW.pt (pw_or (pt_not (pt_val (pe_call GA (hr.mono (by decide)) rfl gA FA.kp bA .nil pass0 (pa_cons (pv 5) pa_nil)))) (pw_or1 (pt_cmp (pc_dnotinX rfl hu (pv 5) (pv 3)))))) (pss_one ps_never) pss_nil)
    (pss_one (ps_ret (pe_dgetXw rfl hu (pv 3) (pv 5) (fun _ _ => rfl))))))), ?_⟩
  obtain ⟨dx, qa, ra, ha, hqa, hra⟩ := ask.t.ex
  have few := lot_len (ns := ns) (known := known) (x := x) tbl
  have ss2 := ask.s2
  obtain ⟨pt, pb⟩ := lot_plan (K := K) LA (lot_nd tbl) (lot_short ask.short) (by omega)
  refine ⟨_, rfl, a, dx, _, rfl, ha, rfl, _, rfl, _, rfl, _, rfl, a, b, ns, known, x, tbl, .ref d, _, rfl, ask, xin, pt, fun H1 s1 => ⟨_, rfl, ?_⟩⟩
  rw [pb, decide_eq_true tl]
  refine iteF ?_
  refine ⟨_, rfl, _, rfl, b, g, known, gs, _, rfl, ask.k.same s1, ask.short, G.same s1, fun H2 s2 => ?_⟩
  have s02 := s1.trans s2
  obtain ⟨o, ho, ko⟩ := (ask.k.same s02).ho
  refine ⟨_, rfl, lc_seq ko ho (by rw [List.length_map]; have := ask.short; omega) (fun _ => true) (fun v => match v with | .str y => .int (av ns us y) | _ => .non) ?_ ?_⟩
  · rintro i v H3 Cn Nn ev s3 yes no
    rw [List.getElem?_map] at ev
    obtain ⟨y, ey, rfl⟩ := Option.map_eq_some_iff.mp ev
    refine ⟨rfl, ?_⟩
    have G3 := G.same (s02.trans s3)
    obtain ⟨j, e', ej, ek', ev'⟩ := valE_in (G.v y (List.mem_of_getElem? ey))
    refine ⟨_, rfl, _, rfl, g, _, _, .text y, j, e'.2, rfl, .inl G3.o, G3.m, .str y, (by rw [List.getElem?_map, ej, ← ek']; rfl), (by rw [List.getElem?_map, ej]; rfl), ?_⟩
    rw [ev']
    exact yes rfl H3 (Same.refl _)
  · intro H3 l nl ol s3
    have ekey : ((known.map V.str).filter fun _ => true).map (fun v => match v with | .str y => V.int (av ns us y) | _ => .non) = (keyR ns known us).map V.int := by
      rw [List.filter_eq_self.mpr (fun _ _ => rfl), List.map_map]
      unfold keyR
      rw [List.map_map]
      rfl
    rw [ekey] at ol
    refine ⟨l, _, rfl, .inl ⟨SqL.of ol, fun t nt => ?_⟩⟩
    have st := same_new (o := .tup ((keyR ns known us).map V.int)) nt
    have ot : upd H3 t (.tup ((keyR ns known us).map V.int)) t = some (.tup ((keyR ns known us).map V.int)) := upd_same
    have s04 := (s02.trans s3).trans st
    generalize upd H3 t (.tup ((keyR ns known us).map V.int)) = H4 at ot s04
    have kl : (keyR ns known us).length < 1000 := by unfold keyR; rw [List.length_map]; exact ask.short
    refine ⟨_, rfl, .ref t, true, rfl, ky_ints ot kl, fun H5 s5 => ⟨_, rfl, iteF ?_⟩⟩
    have s05 := s04.trans s5
    have L5 := LA.same s05
    have mx5 := L5.e.mix (lot_nd (ns := ns) (known := known) (x := x) tbl)
    have kh5 : KeyH H5 (keyN (keyR ns known us)) (.ref t) := keyH_ints (s5 _ _ ot)
    have vv := (L5.e.val (keyN (keyR ns known us))).trans (valN_at (lot_nd tbl) (lot_has tl uin))
    refine ⟨_, rfl, _, rfl, d, es, keyN (keyR ns known us), rfl, .inl L5.o, mx5, kh5, keyN_depth _, ?_⟩
    rw [vv]
    refine ⟨_, rfl, iteF ?_⟩
    obtain ⟨j, e', ej, ek', ev'⟩ := valE_in vv
    refine ⟨_, rfl, _, rfl, d, _, _, keyN (keyR ns known us), j, e'.2, rfl, .inl L5.o, mx5, kh5, (by rw [List.getElem?_map, ej, ← ek']; rfl), (by rw [List.getElem?_map, ej]; rfl), ?_⟩
    rw [ev']
    exact hq H5 s05
end
end L2.TB
/-! are_apart -/
namespace L2.TB
open PySem PySem.Spec PyProof.Rows MK
theorem kit_none2 {K : PySem.W.Frag} {t : String} (h1 : kitB t "list" = some false) (h2 : kitB t "tuple" = some false) : PySem.W.kitAny K (.type t) [.type "list", .type "tuple"] = some false := by
  unfold PySem.W.kitAny
  rw [kit_ty (K := K) h1]
  dsimp only
  unfold PySem.W.kitAny
  rw [kit_ty (K := K) h2]
  rfl
/-- None, a number, a text -/
inductive Atm : V → Prop
  | non : Atm .non
  | int (k : Int) : Atm (.int k)
  | str (x : Str) : Atm (.str x)
theorem Atm.ty {v : V} (h : Atm v) : ∃ t, (∀ (K : PySem.W.Frag) (H : Hp), TyX K H v (.type t)) ∧ kitB t "list" = some false ∧ kitB t "tuple" = some false ∧ kitB t "dict" = some false := by
  cases h with
  | non => exact ⟨_, fun _ _ => .base .non, by decide +kernel, by decide +kernel, by decide +kernel⟩
  | int k => exact ⟨_, fun _ _ => .base (.int k), by decide +kernel, by decide +kernel, by decide +kernel⟩
  | str x => exact ⟨_, fun _ _ => .base (.str x), by decide +kernel, by decide +kernel, by decide +kernel⟩
/-- what may be looked at as two worlds -/
inductive ApTh (w : World) (K : PySem.W.Frag) (H : Hp) (ns : List Str) : V → Option (Option (List Int) × Option (List Int)) → Prop
  | odd {v : V} (a : Atm v) : ApTh w K H ns v none
  | seq {a : Addr} {xs : List V} (s : SqA K H a xs) (ne : xs.length ≠ 2) : ApTh w K H ns (.ref a) none
  | pair {a : Addr} {y z : V} {o1 o2 : Option (List Int)} (s : SqA K H a [y, z]) (w1 : WTh w H ns y o1) (w2 : WTh w H ns z o2) : ApTh w K H ns (.ref a) (some (o1, o2))
theorem ApTh.same {w : World} {K : PySem.W.Frag} {H H' : Hp} {ns : List Str} {v : V} {o : Option (Option (List Int) × Option (List Int))} (h : ApTh w K H ns v o) (s : Same H H') : ApTh w K H' ns v o := by
  cases h with
  | odd a => exact .odd a
  | seq q ne => exact .seq (q.same s) ne
  | pair q w1 w2 => exact .pair (q.same s) (w1.same s) (w2.same s)
def apartB (ns known : List Str) (x : Str) (tbl : List (List Int)) (o : Option (Option (List Int) × Option (List Int))) : Bool := match o with
  | some (some u, some v) => decide (u ∈ tbl) && (decide (v ∈ tbl) && (decide (keyR ns known u = keyR ns known v) && !decide (av ns u x = av ns v x)))
  | _ => false
def spIsListA (K : PySem.W.Frag) : Sp := fun vs H Q _ => ∃ v : V, vs = [v] ∧ Atm v ∧ ∀ H', Same H H' → Q (.bl false) H'
def spIsListO (K : PySem.W.Frag) : Sp := fun vs H Q _ => ∃ (v : V) (b : Bool), vs = [v] ∧ ((Atm v ∧ b = false) ∨ ∃ a xs, v = .ref a ∧ SqA K H a xs ∧ b = true) ∧ ∀ H', Same H H' → Q (.bl b) H'
def spIsPair (w : World) (K : PySem.W.Frag) : Sp := fun vs H Q _ => ∃ (v : V) (ns : List Str) (o : Option (Option (List Int) × Option (List Int))), vs = [v] ∧ ApTh w K H ns v o ∧ ∀ H', Same H H' → Q (.bl o.isSome) H'
def spParted (K : PySem.W.Frag) : Sp := fun vs H Q _ => ∃ (p q b : Addr) (ns known : List Str) (x : Str) (k1 k2 : List (Key × V)) (u v : List Int), vs = [.ref p, .ref q, .ref b, .str x] ∧ H p = some (.dK k1) ∧ RowD ns k1 u ∧ H q = some (.dK k2) ∧ RowD ns k2 v ∧ SqA K H b (known.map V.str) ∧ (∀ y ∈ known, y ∈ ns) ∧ known.length < 1000 ∧ x ∈ ns ∧
  ∀ H', Same H H' → Q (.bl (decide (keyR ns known u = keyR ns known v) && !decide (av ns u x = av ns v x))) H'
def spAreAp (w : World) (K : PySem.W.Frag) (C : Addr) : Sp := fun vs H Q _ => ∃ (a b : Addr) (ns known : List Str) (x : Str) (tbl : List (List Int)) (v : V) (o : Option (Option (List Int) × Option (List Int))), vs = [.ref a, .ref b, .str x, v] ∧ Asked K H C a b ns known tbl ∧ x ∈ ns ∧ ApTh w K H ns v o ∧
  ∀ H', Same H H' → Q (.bl (apartB ns known x tbl o)) H'
theorem scIsPair : FnScope ["thing"] ["thing"] (defScope sIsPair) := ⟨rfl, rfl, rfl, by decide +kernel, rfl, by decide +kernel, by decide +kernel⟩
abbrev NIpd : List Str := ["one", "other", "known", "asked", "name"]
theorem scParted : FnScope NIpd ["one", "other", "known", "asked"] (defScope sIsParted) := ⟨rfl, rfl, rfl, by decide +kernel, rfl, by decide +kernel, by decide +kernel⟩
theorem scAreAp : FnScope ["self", "known", "asked", "thing"] ["self", "known", "asked", "thing"] (defScope sAreAp) := ⟨rfl, rfl, rfl, by decide +kernel, rfl, by decide +kernel, by decide +kernel⟩
theorem keys_all (ns known : List Str) (u v : List Int) : (known.map fun y => decide (av ns u y = av ns v y)).all id = decide (keyR ns known u = keyR ns known v) := by
  rw [Bool.eq_iff_iff, List.all_eq_true, decide_eq_true_eq]
  constructor
  · intro h
    exact key_of fun y hy => of_decide_eq_true (h _ (List.mem_map_of_mem hy))
  · intro h b hb
    obtain ⟨y, hy, rfl⟩ := List.mem_map.mp hb
    exact decide_eq_true (key_mem h y hy)
section
variable {P : Program} {w : World} {K : PySem.W.Frag} {mg : Str → Option Value} {base : Heap} {f C fL fW fP fR aF aL aO aK aA aB : Addr} {fd fdL fdW fdP fdR : FuncData}
theorem ok_isListA (F : Fun K "is_list" "is_list" sIsList f fd) (gI : mg "isinstance" = none) (gL : mg "list" = none) (gT : mg "tuple" = none) : FnOk P w K mg base CX0 1 f fd ["thing"] (spIsListA K) := by
  refine F.ok scIsList (fun vs H Q E h => by obtain ⟨v, e, _⟩ := h; rw [e]; rfl) fun cdv A outer s H vs Q E hr hsp => ?_
  obtain ⟨v, rfl, av, hq⟩ := hsp
  refine ⟨_, pss_one (ps_ret (pe_callB (r := rIsiT K) call_isiT rfl gI boot_isi (pa_cons (pv 0) (pa_cons (pe_tup (pa_cons (pe_bltn (v := .ty "list") rfl gL boot_list' rfl) (pa_cons (pe_bltn (v := .ty "tuple") rfl gT boot_tuple' rfl) pa_nil))) pa_nil)))), ?_⟩
  refine ⟨_, rfl, (by show 2 ≤ sizeLine; decide), fun t nt => ?_⟩
  have kt := same_new (o := .tup [.ty "list", .ty "tuple"]) nt
  obtain ⟨ty, h1, h2, h3, _⟩ := av.ty
  exact ⟨_, _, _, _, _, false, rfl, upd_same, .cons (.ty _) (.cons (.ty _) .nil), h1 _ _, kit_none2 h2 h3, hq _ kt⟩
theorem ok_isListO (F : Fun K "is_list" "is_list" sIsList f fd) (gI : mg "isinstance" = none) (gL : mg "list" = none) (gT : mg "tuple" = none) : FnOk P w K mg base CX0 1 f fd ["thing"] (spIsListO K) := by
  refine fnOr (ok_isListA F gI gL gT) (ok_isList F gI gL gT) ?_
  rintro vs H Q E ⟨v, b, rfl, h | ⟨a, xs, rfl, hs, rfl⟩, hq⟩
  · obtain ⟨h1, rfl⟩ := h
    exact .inl ⟨v, rfl, h1, hq⟩
  · exact .inr ⟨a, xs, rfl, hs, hq⟩
theorem ok_isPair (F : Fun K "is_pair" "is_pair" sIsPair f fd) (FL : Fun K "is_list" "is_list" sIsList fL fdL) (gLi : mg "is_list" = some (.ref fL)) (gI : mg "isinstance" = none) (gL : mg "list" = none) (gT : mg "tuple" = none) (gN : mg "len" = none) : FnOk P w K mg base CX0 2 f fd ["thing"] (spIsPair w K) := by
  have GL : FnOk P w K mg base CX0 1 fL fdL ["thing"] (spIsListO K) := ok_isListO FL gI gL gT
  have bL := FL.binds (ps := ["thing"]) fun _ _ _ _ _ _ us hl => match us, hl with | [_], _ => rfl
  refine F.ok scIsPair (fun vs H Q E h => by obtain ⟨v, ns, o, e, _⟩ := h; rw [e]; rfl) fun cdv A outer s H vs Q E hr hsp => ?_
  obtain ⟨v, ns, o, rfl, th, hq⟩ := hsp
  refine ⟨_, pss_one (ps_ret (pe_and (pe_call GL hr rfl gLi FL.kp bL .nil pass0 (pa_cons (pv 0) pa_nil)) (pe_one (pe_cmpR op_eq (pe_callB call_len_seq rfl gN boot_len (pa_cons (pv 0) pa_nil)) pe_int (nomark _))))), ?_⟩
  cases th with
  | odd a => exact ⟨_, rfl, _, false, rfl, .inl ⟨a, rfl⟩, fun H1 s1 => ⟨_, rfl, iteF (hq H1 s1)⟩⟩
  | @seq a xs hs ne =>
    refine ⟨_, rfl, _, true, rfl, .inr ⟨a, xs, rfl, hs, rfl⟩, fun H1 s1 => ⟨_, rfl, iteT ⟨_, rfl, a, xs, rfl, (hs.same s1).seq, rfl, ?_⟩⟩⟩
    have z := hq H1 s1
    rw [dec_int2, decide_eq_false (by omega : ¬ ((xs.length : Nat) : Int) = 2)]
    exact z
  | @pair a y z o1 o2 hs w1 w2 =>
    refine ⟨_, rfl, _, true, rfl, .inr ⟨a, [y, z], rfl, hs, rfl⟩, fun H1 s1 => ⟨_, rfl, iteT ⟨_, rfl, a, [y, z], rfl, (hs.same s1).seq, rfl, ?_⟩⟩⟩
    exact hq H1 s1
theorem ok_parted (F : Fun K "is_parted" "is_parted" sIsParted f fd) (gA : mg "all" = none) : FnOk P w K mg base CX0 1 f fd ["one", "other", "known", "asked"] (spParted K) := by
  refine F.ok scParted (fun vs H Q E h => by obtain ⟨p, q, b, ns, known, x, k1, k2, u, v, e, _⟩ := h; rw [e]; rfl) fun cdv A outer s H vs Q E hr hsp => ?_
  obtain ⟨p, q, b, ns, known, x, k1, k2, u, v, rfl, op, r1, oq, r2, hb, sub, sh, xin, hq⟩ := hsp
  have nd := scParted.nd
  have hu := hu_of hr
  refine ⟨_, pss_one (ps_ret (pe_and (pe_callB (cr_all rfl) rfl gA boot_all' (pa_cons (pe_lc (own := [("name", 4)]) (tt := tYes) rfl nd (pi_seq (pv 2)) (blkOk_by (N := NIpd) (sc := defScope sIsParted) (by decide +kernel)) (fun _ _ _ _ _ => pg_name (i := 4) nd rfl (Or.inl rfl)) (fun _ _ _ _ _ => pts_nil)
      (fun _ _ _ _ _ => pe_cmpR op_eq (pe_dget hu (pv 0) (pv 4) (fun _ _ => rfl)) (pe_dget hu (pv 1) (pv 4) (fun _ _ => rfl)) (nomark _))) pa_nil))
    (pe_one (pe_cmpR op_ne (pe_dget hu (pv 0) (pv 3) (fun _ _ => rfl)) (pe_dget hu (pv 1) (pv 3) (fun _ _ => rfl)) (nomark _))))), ?_⟩
  obtain ⟨o, ho, ko⟩ := hb.ho
  refine ⟨_, rfl, lc_seq ko ho (by rw [List.length_map]; omega) (fun _ => true) (fun y => match y with | .str y => .bl (decide (av ns u y = av ns v y)) | _ => .non) ?_ ?_⟩
  · rintro i y H2 Cn Nn ey s2 yes no
    rw [List.getElem?_map] at ey
    obtain ⟨z, ez, rfl⟩ := Option.map_eq_some_iff.mp ey
    have zin : z ∈ ns := sub z (List.mem_of_getElem? ez)
    refine ⟨rfl, ?_⟩
    refine ⟨_, rfl, _, rfl, p, _, rfl, r1.val z zin ▸ DGet.k (k := Sum.inr z) (s2 _ _ op), _, rfl, _, rfl, q, _, rfl, r2.val z zin ▸ DGet.k (k := Sum.inr z) (s2 _ _ oq), rfl, ?_⟩
    rw [dec_int2]
    exact yes rfl H2 (Same.refl _)
  · intro H2 D nD oD s2
    have e : ((known.map V.str).filter fun _ => true).map (fun y => match y with | V.str y => V.bl (decide (av ns u y = av ns v y)) | _ => .non) = (known.map fun y => decide (av ns u y = av ns v y)).map V.bl := by
      rw [List.filter_eq_self.mpr (fun _ _ => rfl), List.map_map, List.map_map]
      rfl
    rw [e] at oD
    refine ⟨D, _, rfl, SqL.of oD, _, rfl, ?_⟩
    rw [keys_all]
    have z := hq H2 s2
    cases ek : decide (keyR ns known u = keyR ns known v) with
    | false =>
      rw [ek, Bool.false_and] at z
      exact iteF z
    | true =>
      rw [ek, Bool.true_and] at z
      refine iteT ⟨_, rfl, _, rfl, p, _, rfl, r1.val x xin ▸ DGet.k (k := Sum.inr x) (s2 _ _ op), _, rfl, _, rfl, q, _, rfl, r2.val x xin ▸ DGet.k (k := Sum.inr x) (s2 _ _ oq), rfl, ?_⟩
      rw [dec_int2]
      exact z
theorem ok_areAp (F : Fun K "are_apart" "Table.are_apart" sAreAp f fd) (T : TabC K C) (Ck : Chk K mg aF aL aO aK aA aB) (FP : Fun K "is_pair" "is_pair" sIsPair fP fdP) (gP : mg "is_pair" = some (.ref fP)) (GP : FnOk P w K mg base CX0 2 fP fdP ["thing"] (spIsPair w K))
    (FW : Fun K "_is_world" "Table._is_world" sIsWorld fW fdW) (mW : Meth K C "_is_world" fW) (GW : FnOk P w K mg base CX0 3 fW fdW ["self", "thing"] (spIsWorldX w C))
    (FR : Fun K "is_parted" "is_parted" sIsParted fR fdR) (gR : mg "is_parted" = some (.ref fR)) (gA : mg "all" = none) : FnOk P w K mg base CX0 5 f fd ["self", "known", "asked", "thing"] (spAreAp w K C) := by
  obtain ⟨fdB, FB⟩ := Ck.CB
  have GB := ok_ckB (P := P) (w := w) (base := base) Ck FB
  have bB := FB.binds (ps := ["names", "known", "asked"]) fun _ _ _ _ _ _ us hl => match us, hl with | [_, _, _], _ => rfl
  have GR : FnOk P w K mg base CX0 1 fR fdR ["one", "other", "known", "asked"] (spParted K) := ok_parted FR gA
  have bR := FR.binds (ps := ["one", "other", "known", "asked"]) fun _ _ _ _ _ _ us hl => match us, hl with | [_, _, _, _], _ => rfl
  have bP := FP.binds (ps := ["thing"]) fun _ _ _ _ _ _ us hl => match us, hl with | [_], _ => rfl
  have bW := FW.binds (ps := ["self", "thing"]) fun _ _ _ _ _ _ us hl => match us, hl with | [_, _], _ => rfl
  refine F.ok scAreAp (fun vs H Q E h => by obtain ⟨a, b, ns, known, x, tbl, v, o, e, _⟩ := h; rw [e]; rfl) fun cdv A outer s H vs Q E hr hsp => ?_
  obtain ⟨a, b, ns, known, x, tbl, v, o, rfl, ask, xin, th, hq⟩ := hsp
  refine ⟨_, pss_cons (ps_expr (pe_call GB hr rfl Ck.gCB FB.kp bB .nil pass0 (pa_cons (pe_fld (pv 0) rfl) (pa_cons (pv 1) (pa_cons (pv 2) pa_nil)))))
    (pss_cons (ps_if (PW.pt (pw_or (pt_not (pt_val (pe_call GP (hr.mono (by decide)) rfl gP FP.kp bP .nil pass0 (pa_cons (pv 3) pa_nil))))
        (pw_or (pt_not (pt_val (pe_meth (pv 0) T.cl mW GW (hr.mono (by decide)) bW .nil pass0 (pa_cons (pe_ix ix_any (pv 3) pe_int (fun _ _ => rfl)) pa_nil))))
        (pw_or1 (pt_not (pt_val (pe_meth (pv 0) T.cl mW GW (hr.mono (by decide)) bW .nil pass0 (pa_cons (pe_ix ix_any (pv 3) pe_int (fun _ _ => rfl)) pa_nil)))))))) (pss_one (ps_ret pe_bl)) pss_nil)
    (pss_one (ps_ret (pe_call GR (hr.mono (by decide)) rfl gR FR.kp bR .nil pass0 (pa_cons (pe_ix ix_any (pv 3) pe_int (fun _ _ => rfl)) (pa_cons (pe_ix ix_any (pv 3) pe_int (fun _ _ => rfl)) (pa_cons (pv 1) (pa_cons (pv 2) pa_nil)))))))), ?_⟩
  obtain ⟨dx, qa, ra, ha, hqa, hra⟩ := ask.t.ex
  refine ⟨_, rfl, _, _, _, _, _, rfl, ha, T.cl, T.nQ, tabF_q _ _, _, rfl, _, rfl, qa, b, ns, known, x, rfl, hqa, ask.k, ask.nd, ask.sub, ask.short, xin, fun H1 s1 => ?_⟩
  refine ⟨_, rfl, v, ns, o, rfl, th.same s1, fun H2 s2 => ⟨_, rfl, ?_⟩⟩
  have s02 := s1.trans s2
  cases th with
  | odd a => exact iteT (hq H2 s02)
  | seq q ne => exact iteT (hq H2 s02)
  | @pair p y z o1 o2 q w1 w2 =>
    have at_0 : atI [y, z] (0 : Int) = some y := rfl
    have at_1 : atI [y, z] (1 : Int) = some z := rfl
    refine iteF ⟨_, rfl, a, dx, _, rfl, s02 _ _ ha, rfl, _, rfl, at_any (q.same s02) at_0 ⟨a, y, ns, tbl, o1, rfl, ask.t.same s02, ask.ndn, ask.s1, w1.same s02, fun H3 s3 => ⟨_, rfl, ?_⟩⟩⟩
    have s03 := s02.trans s3
    cases o1 with
    | none => exact iteT (hq H3 s03)
    | some u =>
      have e1 : worldB tbl (some u) = decide (u ∈ tbl) := rfl
      rw [e1]
      by_cases mu : u ∈ tbl
      · rw [decide_eq_true mu]
        refine iteF ⟨_, rfl, a, dx, _, rfl, s03 _ _ ha, rfl, _, rfl, at_any (q.same s03) at_1 ⟨a, z, ns, tbl, o2, rfl, ask.t.same s03, ask.ndn, ask.s1, w2.same s03, fun H4 s4 => ⟨_, rfl, ?_⟩⟩⟩
        have s04 := s03.trans s4
        cases o2 with
        | none => exact iteT (hq H4 s04)
        | some v =>
          have e2 : worldB tbl (some v) = decide (v ∈ tbl) := rfl
          rw [e2]
          by_cases mv : v ∈ tbl
          · rw [decide_eq_true mv]
            cases w1 with
            | @row d1 k1 _ od1 rd1 =>
              cases w2 with
              | @row d2 k2 _ od2 rd2 =>
                refine iteF ⟨_, rfl, at_any (q.same s04) at_0 ⟨_, rfl, at_any (q.same s04) at_1 ⟨_, rfl, _, rfl, d1, d2, b, ns, known, x, k1, k2, u, v, rfl, s04 _ _ od1, rd1, s04 _ _ od2, rd2, ask.k.same s04, ask.sub, ask.short, xin, fun H5 s5 => ?_⟩⟩⟩
                have z := hq H5 (s04.trans s5)
                unfold apartB at z
                dsimp only at z
                rw [decide_eq_true mu, decide_eq_true mv, Bool.true_and, Bool.true_and] at z
                exact z
          · rw [decide_eq_false mv]
            have z := hq H4 s04
            unfold apartB at z
            dsimp only at z
            rw [decide_eq_true mu, decide_eq_false mv, Bool.true_and, Bool.false_and] at z
            exact iteT z
      · rw [decide_eq_false mu]
        have z : Q (.bl false) H3 := by
          have z := hq H3 s03
          cases o2 with
          | none => exact z
          | some v =>
            unfold apartB at z
            dsimp only at z
            rw [decide_eq_false mu, Bool.false_and] at z
            exact z
        exact iteT z
end
end L2.TB
/-! dicts made of pairs -/
namespace L2.TB
open PySem PySem.Spec PyProof.Rows MK
def rDictPX (w : World) (K : PySem.W.Frag) : List V → Hp → VK → Prop := fun xs H Q => ∃ (a : Addr) (ps : List Addr) (es : List En), xs = [.ref a] ∧ SqL K H a (ps.map V.ref) ∧ Paired (fun b x => PairX K H b x) ps es ∧
  ∀ p, H p = none → MixE (upd H p (DE w p (putsE [] es))) (putsE [] es) → Q (.ref p) (upd H p (DE w p (putsE [] es)))
theorem call_dictPXw {X : Cx} {w : World} (hw : X.w = w) (hc : X.calm = true) (hu : X.A.in1.in1.units + 8 < cLine) : CallR X (.type "dict") (rDictPX w X.K) := by
  subst hw
  exact call_dictPX hc hu
theorem hu_in2 {k : Nat} {A : Around} (hr : Room k A) : A.in1.in1.units + 8 < cLine := by
  have h := hr.un
  show A.units + _ + _ + 8 < cLine
  omega
theorem putsE_nd : ∀ (es acc : List En), ((acc ++ es).map (·.1)).Nodup → putsE acc es = acc ++ es
  | [], acc, _ => (List.append_nil acc).symm
  | x :: es, acc, nd => by
    have e : acc ++ x :: es = (acc ++ [x]) ++ es := by simp
    rw [e] at nd ⊢
    have no : x.1 ∉ acc.map (·.1) := fun h => by
      rw [List.map_append, List.map_append, List.nodup_append] at nd
      have nd1 := nd.1
      rw [List.nodup_append] at nd1
      exact nd1.2.2 _ h _ (by simp) rfl
    show putsE (putE acc x.1 x.2.1 x.2.2) es = _
    rw [putE_new no]
    exact putsE_nd es _ nd
theorem ens_puts {H : Hp} : ∀ {es : List En} {L : Lot}, Paired (PairL H) es L → ∀ {acc : List En} {La : Lot}, Ens H acc La → Ens H (putsE acc es) (L.foldl (fun M p => putL M p.1 p.2) La)
  | _, _, .nil, _, _, h => h
  | _, _, @Paired.cons _ _ _ e p es L q t, acc, La, h => by
    obtain ⟨tt, et, ot⟩ := q.t
    have z := h.put (v := p.2) ot
    rw [← q.k, ← et, ← q.v] at z
    exact ens_puts t z
/-- pairs made by a walk -/
theorem lc_pairsO {J : It} {g : TG} {tt : TT} {te : TE} {vs : List Nat} {σ : St} {H1 : Hp} {Q : Addr → Hp → Prop} (opts : List (Option En)) (short : opts.length < 1000000) (go : ∀ i H, Same H1 H → i < opts.length → J.go i H) (stop : ∀ H, Same H1 H → J.stop opts.length H)
    (turn : ∀ (i : Nat) (v : V) (o : Option En) (H H' : Hp) (C : V → Hp → Prop) (N : Hp → Prop), opts[i]? = some o → Same H1 H → J.yld i H v H' → (∀ x, o = some x → ∀ t H4, Same H H4 → H4 t = some (.tup [x.2.1, x.2.2]) → C (.ref t) H4) → (o = none → ∀ H4, Same H H4 → N H4) →
      g v (wipe σ vs) H' fun σ2 H2 => wipe σ2 vs = wipe σ vs ∧ tt σ2 H2 fun b H3 => if b = true then te σ2 H3 C else N H3)
    (fin : ∀ H D ps, H1 D = none → H D = some (.lst ((ps : List Addr).map V.ref)) → Paired (fun p (x : En) => H p = some (.tup [x.2.1, x.2.2])) ps (opts.filterMap id) → Same H1 H → Q D H) : LcW J g tt te vs σ H1 Q := by
  intro D nD
  refine ⟨fun i m H => m = opts.length - i ∧ i ≤ opts.length ∧ (∃ ps : List Addr, H D = some (.lst (ps.map V.ref)) ∧ Paired (fun p (x : En) => H p = some (.tup [x.2.1, x.2.2])) ps ((opts.take i).filterMap id)) ∧ Same H1 H, ⟨_, rfl, Nat.zero_le _, ⟨[], upd_same, .nil⟩, same_new nD⟩, ?_⟩
  rintro i m H ⟨rfl, le, ⟨ps, oD, pr⟩, s1⟩
  by_cases lt : i < opts.length
  · refine .inr ⟨go i H s1 lt, fun H' => (∃ ps : List Addr, H' D = some (.lst (ps.map V.ref)) ∧ Paired (fun p (x : En) => H' p = some (.tup [x.2.1, x.2.2])) ps ((opts.take (i + 1)).filterMap id)) ∧ Same H1 H', fun H' h => ⟨opts.length - (i + 1), by omega, rfl, lt, h⟩, fun v H' yl => ?_⟩
    have eo : opts[i]? = some opts[i] := List.getElem?_eq_getElem lt
    have et : opts.take (i + 1) = opts.take i ++ [opts[i]] := by rw [List.take_succ, eo]; rfl
    refine turn i v opts[i] H H' _ _ eo s1 yl (fun x ex t H4 s4 ot => ⟨_, s4 _ _ oD, ?_, ⟨ps ++ [t], by rw [upd_same]; simp, ?_⟩, ?_⟩) (fun no H4 s4 => ⟨⟨ps, s4 _ _ oD, ?_⟩, s1.trans s4⟩)
    · have l1 := Paired.length pr
      have l2 := List.length_filterMap_le id (opts.take i)
      rw [List.length_take] at l2
      rw [sizeLine_eq, List.length_map]
      omega
    · have tD : t ≠ D := fun z => by rw [z, s4 _ _ oD] at ot; cases ot
      rw [et, List.filterMap_append, ex]
      refine paired_snoc (by rw [upd_ne tD]; exact ot) (Paired.mapP pr fun p x h => ?_)
      rw [upd_ne (ne_of h oD (by intro z; cases z))]
      exact s4 _ _ h
    · intro b u e
      rw [upd_ne (ne_of_none e nD)]
      exact s4 _ _ (s1 _ _ e)
    · rw [et, List.filterMap_append, no]
      simpa using Paired.mapP pr fun p x h => s4 _ _ h
  · obtain rfl : i = opts.length := by omega
    rw [List.take_length] at pr
    exact .inl ⟨stop H s1, fin H D ps nD oD pr s1⟩
theorem paired_px {K : PySem.W.Frag} {H : Hp} {ps : List Addr} {es : List En} (pr : Paired (fun p (x : En) => H p = some (.tup [x.2.1, x.2.2])) ps es) (k : ∀ x ∈ es, KeyH H x.1 x.2.1 ∧ x.1.depth ≤ 8) : Paired (fun b x => PairX K H b x) ps es := by
  refine nth_pair ps es (Paired.length pr) fun i p x e1 e2 => ?_
  obtain ⟨y, ey, h⟩ := paired_get pr e1
  rw [e2] at ey
  obtain rfl := Option.some.inj ey
  exact ⟨SqT.of h, (k x (List.mem_of_getElem? e2)).1, (k x (List.mem_of_getElem? e2)).2⟩
/-- dict([.. for one in d ..]) -/
theorem dict_walk {w : World} {K : PySem.W.Frag} {td : TE} {g : TG} {tt : TT} {te : TE} {vs : List Nat} {σ : St} {H : Hp} {Q : VK} {d : Addr} {es : List En} (hd : H d = some (DE w d es)) (rd : ∀ od R, R (.ref d) (upd H d (.frz od (DE w d es))) → td σ (upd H d (.frz od (DE w d es))) R) (opts : List (Option En)) (lo : opts.length = es.length) (short : es.length < 1000000)
    (turn : ∀ (i : Nat) (e : En) (o : Option En) (od : Obj) (H' : Hp) (C : V → Hp → Prop) (N : Hp → Prop), es[i]? = some e → opts[i]? = some o → Same (upd H d (.frz od (DE w d es))) H' → (∀ x, o = some x → ∀ t H4, Same H' H4 → H4 t = some (.tup [x.2.1, x.2.2]) → C (.ref t) H4) → (o = none → ∀ H4, Same H' H4 → N H4) →
      g e.2.1 (wipe σ vs) H' fun σ2 H2 => wipe σ2 vs = wipe σ vs ∧ tt σ2 H2 fun b H3 => if b = true then te σ2 H3 C else N H3)
    (keys : ∀ x ∈ opts.filterMap id, KeyH H x.1 x.2.1 ∧ x.1.depth ≤ 8) (nd : ((opts.filterMap id).map (·.1)).Nodup)
    (fin : ∀ H' p, H p = none → H' p = some (DE w p (opts.filterMap id)) → MixE H' (opts.filterMap id) → Same H H' → Q (.ref p) H') :
    tCB (rDictPX w K) (tCons (tLockE (tLc (iKeysX w td) g tt te vs)) tNil) σ H Q := by
  refine ⟨d, _, hd, trivial, fun od => ?_⟩
  refine rd od _ ⟨d, od, _, _, rfl, upd_same, lc_pairsO opts (by omega) (fun i H' k lt => ⟨k _ _ upd_same, by rw [List.length_map]; omega⟩) (fun H' k => ⟨k _ _ upd_same, by rw [List.length_map]; omega⟩) ?_ ?_⟩
  · rintro i v o H2 H3 C N eo s2 ⟨rfl, v2, ev⟩ yes no
    rw [List.getElem?_map] at ev
    obtain ⟨e, ee, e12⟩ := Option.map_eq_some_iff.mp ev
    obtain rfl : e.2.1 = v := congrArg Prod.fst e12
    exact turn i e o od _ C N ee eo s2 yes no
  · intro H2 D ps nD oD pr s2
    obtain ⟨b1, s34⟩ := lock_off hd s2
    have Dd : D ≠ d := fun z => by rw [z, upd_same] at nD; cases nD
    have pr2 : Paired (fun p (x : En) => (upd H2 d (DE w d es)) p = some (.tup [x.2.1, x.2.2])) ps (opts.filterMap id) := Paired.mapP pr fun p x h => by
      rw [upd_ne (ne_of h b1 (by intro z; cases z))]; exact h
    refine ⟨b1, D, ps, opts.filterMap id, rfl, SqL.of (by rw [upd_ne Dd]; exact oD), paired_px pr2 (fun x hx => ⟨(keys x hx).1.mono fun _ _ e => s34 _ _ e, (keys x hx).2⟩), fun p np mx => ?_⟩
    have pe : putsE [] (opts.filterMap id) = opts.filterMap id := by
      have z := putsE_nd (opts.filterMap id) [] (by simpa using nd)
      simpa using z
    rw [pe] at mx ⊢
    exact fin _ p (s34.free np) upd_same mx (s34.trans (same_new np))
end L2.TB
/-! _law_lot -/
namespace L2.TB
open PySem PySem.Spec PyProof.Rows MK
theorem mk_ens {K : PySem.W.Frag} {H : Hp} : ∀ {ps : List Addr} {L : Lot}, Paired (fun p (l : List Int × Int) => ∃ t : Addr, H p = some (.tup [.ref t, .int l.2]) ∧ H t = some (.tup (l.1.map V.int))) ps L → ∃ es : List En, Paired (fun b x => PairX K H b x) ps es ∧ Paired (PairL H) es L
  | _, _, .nil => ⟨[], .nil, .nil⟩
  | _, _, @Paired.cons _ _ _ p l ps L h t => by
    obtain ⟨es, h1, h2⟩ := mk_ens (K := K) t
    obtain ⟨a, op, oa⟩ := h
    exact ⟨(keyN l.1, .ref a, .int l.2) :: es, .cons ⟨SqT.of op, keyH_ints oa, keyN_depth _⟩ h1, .cons ⟨rfl, ⟨a, rfl, oa⟩, rfl⟩ h2⟩
def rowsL (ns known : List Str) (x : Str) (tbl : List (List Int)) : Lot := tbl.map fun u => (keyR ns known u, av ns u x)
theorem lot_fold (ns known : List Str) (x : Str) (tbl : List (List Int)) : (rowsL ns known x tbl).foldl (fun M p => putL M p.1 p.2) [] = lotOf ns known x tbl := by
  unfold rowsL lotOf
  rw [List.foldl_map]
def spLot (w : World) (K : PySem.W.Frag) : Sp := fun vs H Q _ => ∃ (r c : Addr) (as : List Addr) (ns known : List Str) (x : Str) (tbl : List (List Int)), vs = [.ref r, .ref c, .str x] ∧ Told K H r c as ns known tbl ∧ x ∈ ns ∧ tbl.length < 1000 ∧
  ∀ H' d es, H d = none → LotAt w H' d es (lotOf ns known x tbl) → Same H H' → Q (.ref d) H'
abbrev NLo : List Str := ["rows", "known", "asked", "row"]
theorem scLot : FnScope NLo ["rows", "known", "asked"] (defScope sLot) := ⟨rfl, rfl, rfl, by decide +kernel, rfl, by decide +kernel, by decide +kernel⟩
section
variable {P : Program} {w : World} {K : PySem.W.Frag} {mg : Str → Option Value} {base : Heap} {f fK : Addr} {fd fdK : FuncData}
theorem ok_lot (F : Fun K "_law_lot" "_law_lot" sLot f fd) (FK : Fun K "_law_t_key" "_law_t_key" sKey fK fdK) (gK : mg "_law_t_key" = some (.ref fK)) (nT : mg "tuple" = none) (nD : mg "dict" = none) : FnOk P w K mg base CX0 2 f fd ["rows", "known", "asked"] (spLot w K) := by
  have G : FnOk P w K mg base CX0 1 fK fdK ["row", "known"] (spKey K) := ok_key FK nT
  have b := FK.binds (ps := ["row", "known"]) fun _ _ _ _ _ _ us hl => match us, hl with | [_, _], _ => rfl
  refine F.ok scLot (fun vs H Q E h => by obtain ⟨r, c, as, ns, known, x, tbl, e, _⟩ := h; rw [e]; rfl) fun cdv A outer s H vs Q E hr hsp => ?_
  obtain ⟨r, c, as, ns, known, x, tbl, rfl, T, xin, few, hq⟩ := hsp
  have nd := scLot.nd
  have hu := hu_of hr
  refine ⟨_, pss_one (ps_ret (pe_callTy (call_dictPXw rfl rfl (hu_in2 hr)) rfl nD boot_dict' (pa_cons (pe_lc (own := [("row", 3)]) (tt := tYes) rfl nd (pi_list (pv 0)) (blkOk_by (N := NLo) (sc := defScope sLot) (by decide +kernel)) (fun _ _ _ _ _ => pg_name (i := 3) nd rfl (Or.inl rfl)) (fun _ _ _ _ _ => pts_nil)
    (fun _ _ _ _ _ => pe_tup (pa_cons (pe_call G hr rfl gK FK.kp b .nil pass0 (pa_cons (pv 3) (pa_cons (pv 1) pa_nil))) (pa_cons (pe_dget hu (pv 3) (pv 2) (fun _ _ => rfl)) pa_nil)))) pa_nil))), ?_⟩
  have las : as.length = tbl.length := Paired.length T.rows
  have lr : (rowsL ns known x tbl).length = tbl.length := by unfold rowsL; rw [List.length_map]
  refine ⟨_, rfl, r, rfl, ⟨_, SqL.of T.r⟩, ?_⟩
  refine lc_made tbl.length (by omega) (fun i H' k lt => ⟨_, _, SqL.of (k _ _ T.r), List.getElem?_eq_getElem (by rw [List.length_map]; omega)⟩) (fun H' k => ⟨_, SqL.of (k _ _ T.r), by rw [List.length_map]; omega⟩)
    (fun i y H' => ∃ (p t : Addr) (l : List Int × Int), y = V.ref p ∧ (rowsL ns known x tbl)[i]? = some l ∧ H' p = some (.tup [.ref t, .int l.2]) ∧ H' t = some (.tup (l.1.map V.int))) ?_ ?_ ?_
  · rintro i y H2 H3 D l ⟨p, t, e, rfl, el, op, ot⟩ oD keep
    exact ⟨p, t, e, rfl, el, keep _ _ (ne_of op oD (by intro z; cases z)) op, keep _ _ (ne_of ot oD (by intro z; cases z)) ot⟩
  · rintro i v H2 H3 Cn Nn lt s2 ⟨rfl, ev⟩ yes
    have ev := ev _ (SqL.of (s2 _ _ T.r))
    rw [List.getElem?_map] at ev
    obtain ⟨a, ea, rfl⟩ := Option.map_eq_some_iff.mp ev
    obtain ⟨u, eu, oa, lu⟩ := paired_get T.rows ea
    refine ⟨rfl, ?_⟩
    refine ⟨_, rfl, _, rfl, a, c, ns, known, u, rfl, rd_same oa s2, lu, T.ndn, T.k.same s2, T.sub, T.short, fun H4 t nt ot s4 => ?_⟩
    refine ⟨_, rfl, _, rfl, a, _, rfl, dk_av T.ndn lu xin ▸ dget_r (k := Sum.inr x) (rd_same oa (s2.trans s4)), (by show 2 ≤ sizeLine; decide), fun p np => ?_⟩
    have sp := same_new (o := .tup [.ref t, .int (av ns u x)]) np
    exact yes _ _ ⟨p, t, (keyR ns known u, av ns u x), rfl, (by unfold rowsL; rw [List.getElem?_map, eu]; rfl), upd_same, sp _ _ ot⟩ (s4.trans sp)
  · intro H2 D ys nD oD ly ry s2
    obtain ⟨ps, rfl, pa⟩ := addrs_of (H := H2) (P := fun i p => ∃ (t : Addr) (l : List Int × Int), (rowsL ns known x tbl)[i]? = some l ∧ H2 p = some (.tup [.ref t, .int l.2]) ∧ H2 t = some (.tup (l.1.map V.int))) ys 0 fun j y e => by
      obtain ⟨p, t, l, e1, e2, e3, e4⟩ := ry j y e
      exact ⟨p, e1, t, l, by simpa using e2, e3, e4⟩
    have pr : Paired (fun p (l : List Int × Int) => ∃ t : Addr, H2 p = some (.tup [.ref t, .int l.2]) ∧ H2 t = some (.tup (l.1.map V.int))) ps (rowsL ns known x tbl) := paired_of ps _ (by rw [lr, ← ly, List.length_map]) fun i p l e1 e2 => by
      obtain ⟨t, l', e3, e4, e5⟩ := pa i p e1
      rw [Nat.zero_add, e2] at e3
      obtain rfl := Option.some.inj e3
      exact ⟨t, e4, e5⟩
    obtain ⟨es, p1, p2⟩ := mk_ens (K := K) pr
    refine ⟨D, ps, es, rfl, SqL.of oD, p1, fun q nq mx => ?_⟩
    have sq := same_new (o := DE w q (putsE [] es)) nq
    have en := ens_puts p2 (acc := []) (La := []) .nil
    rw [lot_fold] at en
    exact hq _ q _ (s2.free nq) ⟨upd_same, en.mono fun _ _ e => sq _ _ e⟩ (s2.trans sq)
end
end L2.TB
/-! what is no plan -/
namespace L2.TB
open PySem PySem.Spec PyProof.Rows MK
inductive NoPl (w : World) (H : Hp) (L : Lot) : V → Prop
  | atm {v : V} (a : Atm v) : NoPl w H L v
  | lst {a : Addr} {xs : List V} (o : H a = some (.lst xs)) : NoPl w H L (.ref a)
  | dict {d : Addr} {es : List En} {ms : List (Bool × Bool)} (o : H d = some (DE w d es)) (m : MixE H es) (p : Paired (fun (e : En) (m : Bool × Bool) => Ky H e.2.1 m.1 ∧ Pn e.2.2 m.2) es ms) (sh : es.length < 1000) (no : planB L (some (es, ms)) = false) : NoPl w H L (.ref d)
theorem NoPl.th {w : World} {K : PySem.W.Frag} {H : Hp} {L : Lot} {v : V} (h : NoPl w H L v) : ∃ o, PlTh w K H v o ∧ planB L o = false := by
  cases h with
  | atm a =>
    obtain ⟨t, h1, _, _, h4⟩ := a.ty
    exact ⟨none, .odd (h1 K H) h4, rfl⟩
  | lst o => exact ⟨none, .odd (.base (.lst o)) (by decide +kernel), rfl⟩
  | dict o m p sh no => exact ⟨_, .dict o m p sh, no⟩
/-- all but one stays -/
theorem NoPl.but {w : World} {H H' : Hp} {L : Lot} {q : Addr} {xs : List V} {v : V} (h : NoPl w H L v) (hq : H q = some (.lst xs)) (ne : v ≠ .ref q) (s : ∀ b o, b ≠ q → H b = some o → H' b = some o) : NoPl w H' L v := by
  have tk : ∀ a vs, H a = some (.tup vs) → H' a = some (.tup vs) := fun a vs e => s _ _ (fun z => by rw [z, hq] at e; cases e) e
  cases h with
  | atm a => exact .atm a
  | lst o => exact .lst (s _ _ (fun z => ne (congrArg V.ref z)) o)
  | dict o m p sh no => exact .dict (s _ _ (fun z => by rw [z, hq] at o; unfold DE DX at o; cases o) o) (m.mono tk) (Paired.mapP p fun e b h => ⟨h.1.mono tk, h.2⟩) sh no
theorem NoPl.same {w : World} {H H' : Hp} {L : Lot} {v : V} (h : NoPl w H L v) (s : Same H H') : NoPl w H' L v := by
  cases h with
  | atm a => exact .atm a
  | lst o => exact .lst (s _ _ o)
  | dict o m p sh no => exact .dict (s _ _ o) (m.mono fun _ _ e => s _ _ e) (Paired.mapP p fun e b h => ⟨h.1.mono fun _ _ e => s _ _ e, h.2⟩) sh no
theorem goodE_self {L : Lot} (nd : (L.map (·.1)).Nodup) {H : Hp} {es : List En} (en : Ens H es L) {e : En} (he : e ∈ es) : ∃ p ∈ L, e.1 = keyN p.1 ∧ e.2.2 = .int p.2 ∧ valN L e.1 = some (.int p.2) := by
  obtain ⟨i, hi, ei⟩ := List.getElem_of_mem he
  obtain ⟨p, ep, q⟩ := paired_get en (show es[i]? = some e by rw [List.getElem?_eq_getElem hi, ei])
  have hp := List.mem_of_getElem? ep
  exact ⟨p, hp, q.k, q.v, by rw [q.k]; exact valN_at nd hp⟩
theorem ens_ok {H : Hp} {es : List En} {L : Lot} (en : Ens H es L) (sh : ∀ p ∈ L, p.1.length < 1000) {e : En} (he : e ∈ es) : Ky H e.2.1 true ∧ Pn e.2.2 true := by
  obtain ⟨i, hi, ei⟩ := List.getElem_of_mem he
  obtain ⟨p, ep, q⟩ := paired_get en (show es[i]? = some e by rw [List.getElem?_eq_getElem hi, ei])
  obtain ⟨t, et, ot⟩ := q.t
  exact ⟨et ▸ ky_ints ot (sh p (List.mem_of_getElem? ep)), q.v ▸ .int _⟩
theorem paired_maps {α β γ : Type} {R : β → γ → Prop} (f : α → β) (g : α → γ) : ∀ xs : List α, (∀ x ∈ xs, R (f x) (g x)) → Paired R (xs.map f) (xs.map g)
  | [], _ => .nil
  | x :: xs, h => .cons (h x List.mem_cons_self) (paired_maps f g xs fun y hy => h y (List.mem_cons_of_mem _ hy))
theorem zip_all {α β γ : Type} (f : α → β) (g : α → γ) (P : β × γ → Bool) : ∀ xs : List α, ((xs.map f).zip (xs.map g)).all P = xs.all fun x => P (f x, g x)
  | [] => rfl
  | x :: xs => by
    rw [List.map_cons, List.map_cons, List.zip_cons_cons, List.all_cons, List.all_cons, zip_all f g P xs]
theorem nopl_map {w : World} {H : Hp} {L : Lot} {es : List En} {p : Addr} (f : En → En) (g : En → Bool × Bool) (o : H p = some (DE w p (es.map f))) (m : MixE H (es.map f)) (sh : es.length < 1000) (each : ∀ e ∈ es, Ky H (f e).2.1 (g e).1 ∧ Pn (f e).2.2 (g e).2) (bad : ∃ e ∈ es, goodE L (f e) (g e) = false) : NoPl w H L (.ref p) := by
  refine .dict (ms := es.map g) o m (paired_maps f g es each) (by rw [List.length_map]; exact sh) ?_
  rw [planB_some, zip_all f g]
  have z : (es.all fun x => goodE L (f x, g x).1 (f x, g x).2) = false := by
    rw [List.all_eq_false]
    obtain ⟨e, he, b⟩ := bad
    exact ⟨e, he, by rw [b]; decide⟩
  rw [z, Bool.and_false]
/-- with other numbers of entries -/
theorem nopl_len {w : World} {H : Hp} {L : Lot} {fs : List En} {p : Addr} (g : En → Bool × Bool) (o : H p = some (DE w p fs)) (m : MixE H fs) (sh : fs.length < 1000) (each : ∀ e ∈ fs, Ky H e.2.1 (g e).1 ∧ Pn e.2.2 (g e).2) (ne : fs.length ≠ L.length) : NoPl w H L (.ref p) := by
  have z := paired_maps (R := fun (e : En) (m : Bool × Bool) => Ky H e.2.1 m.1 ∧ Pn e.2.2 m.2) id g fs each
  rw [List.map_id] at z
  refine .dict (ms := fs.map g) o m z sh ?_
  rw [planB_some, decide_eq_false ne, Bool.false_and]
/-- a key of truths -/
def truth (k : Int) : V := if k = 0 ∨ k = 1 then .bl (decide (k = 1)) else .int k
theorem truth_key {H : Hp} {t : Addr} {ks : List Int} (o : H t = some (.tup (ks.map truth))) : KeyH H (keyN ks) (.ref t) := by
  refine .tup o (by rw [List.length_map, List.length_map]) fun i v k e1 e2 => ?_
  rw [List.getElem?_map] at e1 e2
  obtain ⟨n, en, rfl⟩ := Option.map_eq_some_iff.mp e1
  rw [en] at e2
  obtain rfl : NestedKey.num n = k := Option.some.inj e2
  unfold truth
  by_cases h : n = 0 ∨ n = 1
  · rw [if_pos h]
    rcases h with rfl | rfl
    · exact .bl false
    · exact .bl true
  · rw [if_neg h]
    exact .int n
theorem truth_pn : ∀ ks : List Int, Paired Pn (ks.map truth) (ks.map fun k => !decide (k = 0 ∨ k = 1))
  | [] => .nil
  | k :: ks => by
    rw [List.map_cons, List.map_cons]
    refine .cons ?_ (truth_pn ks)
    unfold truth
    by_cases h : k = 0 ∨ k = 1
    · rw [if_pos h, decide_eq_true h]; exact .bl _
    · rw [if_neg h, decide_eq_false h]; exact .int _
theorem truth_ky {H : Hp} {t : Addr} {ks : List Int} (o : H t = some (.tup (ks.map truth))) (sh : ks.length < 1000) (any : (ks.any fun k => decide (k = 0 ∨ k = 1)) = true) : Ky H (.ref t) false := by
  have z : ((ks.map fun k => !decide (k = 0 ∨ k = 1)).all id) = false := by
    rw [List.all_eq_false]
    obtain ⟨k, hk, e⟩ := List.any_eq_true.mp any
    exact ⟨_, List.mem_map_of_mem hk, by rw [e]; decide⟩
  have y := Ky.tup o (truth_pn ks) (by rw [List.length_map]; exact sh)
  rw [z] at y
  exact y
/-- a value that the key has not -/
structure OddV (L : Lot) (k : List Int) (v : V) (b : Bool) : Prop where
  p : Pn v b
  no : b = true → valN L (keyN k) ≠ some v
end L2.TB
/-! _law_bent_plans: a turn's parts -/
namespace L2.TB
open PySem PySem.Spec PyProof.Rows MK
abbrev NBp : List Str := ["plan", "found", "key", "truths", "odd", "one"]
theorem scBp : FnScope NBp ["plan"] (defScope sBentP) := ⟨rfl, rfl, rfl, by decide +kernel, rfl, by decide +kernel, by decide +kernel⟩
def bodyP : List Stmt := match (defBody sBentP).getD 1 (.Pass ⟨0, 0, 0, 0⟩) with
  | .For _ _ b _ _ => b
  | _ => []
/-- what was found so far -/
structure BentS (w : World) (H : Hp) (d q : Addr) (es : List En) (L : Lot) (bs : List V) : Prop where
  l : LotAt w H d es L
  o : H q = some (.lst bs)
  b : ∀ b ∈ bs, b ≠ .ref q ∧ NoPl w H L b
theorem BentS.same {w : World} {H H' : Hp} {d q : Addr} {es : List En} {L : Lot} {bs : List V} (h : BentS w H d q es L bs) (s : Same H H') : BentS w H' d q es L bs := ⟨h.l.same s, s _ _ h.o, fun b hb => ⟨(h.b b hb).1, (h.b b hb).2.same s⟩⟩
theorem BentS.dq {w : World} {H : Hp} {d q : Addr} {es : List En} {L : Lot} {bs : List V} (h : BentS w H d q es L bs) : d ≠ q := fun z => by
  have e := h.l.o
  rw [z, h.o] at e
  unfold DE DX at e
  cases e
/-- but the list -/
def ButQ (q : Addr) (H H' : Hp) : Prop := ∀ b o, b ≠ q → H b = some o → H' b = some o
theorem ButQ.trans {q : Addr} {H H1 H2 : Hp} (a : ButQ q H H1) (b : ButQ q H1 H2) : ButQ q H H2 := fun c o n e => b c o n (a c o n e)
theorem ButQ.of {q : Addr} {H H' : Hp} (s : Same H H') : ButQ q H H' := fun b o _ e => s b o e
theorem BentS.app {w : World} {H : Hp} {d q : Addr} {es : List En} {L : Lot} {bs : List V} {v : V} (h : BentS w H d q es L bs) (ne : v ≠ .ref q) (nv : NoPl w H L v) : BentS w (upd H q (.lst (bs ++ [v]))) d q es L (bs ++ [v]) := by
  have s : ButQ q H (upd H q (.lst (bs ++ [v]))) := fun b o n e => by rw [upd_ne n]; exact e
  refine ⟨⟨s _ _ h.dq h.l.o, h.l.e.mono fun a vs e => s _ _ (fun z => by rw [z, h.o] at e; cases e) e⟩, upd_same, fun b hb => ?_⟩
  rcases List.mem_append.mp hb with hb | hb
  · exact ⟨(h.b b hb).1, (h.b b hb).2.but h.o (h.b b hb).1 s⟩
  · rw [List.mem_singleton] at hb
    rw [hb]
    exact ⟨ne, nv.but h.o ne s⟩
section
variable {w : World} {K : PySem.W.Frag} {g : TG} {tt : TT} {te : TE} {vs : List Nat} {σ : St} {H : Hp} {D : Ends} {d q : Addr} {es : List En} {L : Lot} {bs : List V}
/-- found.append(dict([.. for one in plan ..])) -/
theorem app_dict (B : BentS w H d q es L bs) (few : bs.length < 1000) (s0 : σ[0]? = some (some (.ref d))) (s1 : σ[1]? = some (some (.ref q))) (opts : List (Option En)) (lo : opts.length = es.length) (short : es.length < 1000000)
    (turn : ∀ (i : Nat) (e : En) (o : Option En) (od : Obj) (H' : Hp) (C : V → Hp → Prop) (N : Hp → Prop), es[i]? = some e → opts[i]? = some o → Same (upd H d (.frz od (DE w d es))) H' → (∀ x, o = some x → ∀ t H4, Same H' H4 → H4 t = some (.tup [x.2.1, x.2.2]) → C (.ref t) H4) → (o = none → ∀ H4, Same H' H4 → N H4) →
      g e.2.1 (wipe σ vs) H' fun σ2 H2 => wipe σ2 vs = wipe σ vs ∧ tt σ2 H2 fun b H3 => if b = true then te σ2 H3 C else N H3)
    (keys : ∀ x ∈ opts.filterMap id, KeyH H x.1 x.2.1 ∧ x.1.depth ≤ 8) (nd : ((opts.filterMap id).map (·.1)).Nodup)
    (no : ∀ H' p, Same H H' → H' p = some (DE w p (opts.filterMap id)) → MixE H' (opts.filterMap id) → NoPl w H' L (.ref p))
    (next : ∀ H' b, BentS w H' d q es L (bs ++ [b]) → ButQ q H H' → D.nx σ H') :
    tDrop (tBM K "list" rAppend (tVar 1) (tCons (tCB (rDictPX w K) (tCons (tLockE (tLc (iKeysX w (tVar 0)) g tt te vs)) tNil)) tNil)) D σ H := by
  refine ⟨_, s1, .inl ⟨rfl, _, SqL.of B.o⟩, ?_⟩
  refine dict_walk B.l.o (fun od R r => ⟨_, s0, r⟩) opts lo short turn keys nd fun H' p np op mx s => ?_
  have B' := B.same s
  have pq : p ≠ q := fun z => by rw [z, B.o] at np; cases np
  refine ⟨q, bs, .ref p, rfl, rfl, B'.o, by rw [sizeLine_eq]; omega, next _ (.ref p) (B'.app (fun z => pq (V.ref.inj z)) (no H' p s op mx)) fun b o n e => ?_⟩
  rw [upd_ne n]
  exact s _ _ e
end
/-- a key of the plan -/
structure KeyAt (H : Hp) (t : Addr) (L : Lot) (l : List Int × Int) : Prop where
  o : H t = some (.tup (l.1.map V.int))
  m : l ∈ L
/-- two keys -/
theorem key_cmp {K : PySem.W.Frag} {H : Hp} {e : En} {p l : List Int × Int} {t : Addr} (h : PairL H e p) (o : H t = some (.tup (l.1.map V.int))) : Dp K H e.2.1 (tupD p.1) ∧ Dp K H (.ref t) (tupD l.1) := by
  obtain ⟨a, ea, oa⟩ := h.t
  exact ⟨ea ▸ dpD_tup oa, dpD_tup o⟩
theorem key_dec {e : En} {p l : List Int × Int} {H : Hp} (h : PairL H e p) : decide (p.1 = l.1) = decide (e.1 = keyN l.1) := by
  rw [h.k]
  by_cases z : p.1 = l.1
  · rw [z]; simp
  · rw [decide_eq_false z, decide_eq_false fun y => z (keyN_inj y)]
theorem opt_filter (k : NestedKey) : ∀ es : List En, (es.map fun e => if e.1 = k then none else some e).filterMap id = es.filter fun e => !decide (e.1 = k)
  | [] => rfl
  | e :: es => by
    rw [List.map_cons, List.filter_cons]
    by_cases z : e.1 = k
    · rw [if_pos z, decide_eq_true z, List.filterMap_cons]
      exact opt_filter k es
    · rw [if_neg z, decide_eq_false z, List.filterMap_cons]
      show e :: List.filterMap id _ = _
      rw [opt_filter k es]
      rfl
theorem opt_some (f : En → En) : ∀ es : List En, (es.map fun e => some (f e)).filterMap id = es.map f
  | [] => rfl
  | e :: es => by
    rw [List.map_cons, List.map_cons, List.filterMap_cons]
    show f e :: List.filterMap id _ = _
    rw [opt_some f es]
theorem mix_key {H : Hp} {es : List En} (m : MixE H es) {e : En} (he : e ∈ es) : KeyH H e.1 e.2.1 ∧ e.1.depth ≤ 8 := by
  obtain ⟨i, hi, ei⟩ := List.getElem_of_mem he
  have ee : es[i]? = some e := by rw [List.getElem?_eq_getElem hi, ei]
  exact ⟨m.is_ i e.1 e.2 (by rw [List.getElem?_map, ee]; rfl) (by rw [List.getElem?_map, ee]; rfl), m.dp _ (List.mem_map_of_mem he)⟩
section
variable {P : Program} {w : World} {K : PySem.W.Frag} {mg : Str → Option Value} {base : Heap} {f : Addr} {cdv : Value} {A : Around} {outer : List Env} {s : Shared} {H : Hp} {E : XK}
theorem bent_1 (hr : Room 3 (A.deeper (envOfC "_law_bent_plans" (defScope sBentP) s.heap.objs.size f cdv))) (nD : mg "dict" = none) :
    ∃ t, PS (cxOf CX0 P w K mg base NBp "_law_bent_plans" (defScope sBentP) f cdv A outer s H E).nox (bodyP.getD 0 (.Pass ⟨0, 0, 0, 0⟩)) t ∧ ∀ (D : Ends) (H0 : Hp) (d q k : Addr) (es : List En) (L : Lot) (bs : List V) (l : List Int × Int) (s3 s4 s5 : Option V),
      BentS w H0 d q es L bs → bs.length < 1000 → (L.map (·.1)).Nodup → (∀ p ∈ L, p.1.length < 1000) → L.length < 1000 → KeyAt H0 k L l → (∀ H' b, BentS w H' d q es L (bs ++ [b]) → ButQ q H0 H' → D.nx [some (.ref d), some (.ref q), some (.ref k), s3, s4, s5] H') → t D [some (.ref d), some (.ref q), some (.ref k), s3, s4, s5] H0 := by
  have nd := scBp.nd
  have hu := hu_in hr
  have hu64 := hr.units
  refine ⟨_, ps_expr (pe_bm PySem.F.plainAttrs_list PySem.F.slot_list_append PySem.F.type_list_append mt_append (pv 1) (pa_cons (pe_callTy (call_dictPXw rfl rfl (hu_in2 hr)) rfl nD boot_dict' (pa_cons (pe_lock (pe_lc (own := [("one", 5)]) rfl nd (pi_keysXw rfl (pv 0)) (blkOk_by (N := NBp) (sc := defScope sBentP) (by decide +kernel)) (fun _ _ _ _ _ => pg_name (i := 5) nd rfl (Or.inl rfl))
    (fun _ _ _ _ _ => pts_one (pt_cmpR (r := rNeD K) (op_neD hu64) (pv 5) (pv 2) (nomark _))) (fun _ _ _ _ _ => pe_tup (pa_cons (pv 5) (pa_cons (pe_dgetXw rfl hu (pv 0) (pv 5) (fun _ _ => rfl)) pa_nil))))) pa_nil)) pa_nil)), ?_⟩
  intro D H0 d q k es L bs l s3 s4 s5 B few lnd lsh lfew KA next
  have le : es.length = L.length := Paired.length B.l.e
  have enk := B.l.e.keys
  have mx := B.l.e.mix lnd
  refine app_dict B few rfl rfl (es.map fun e => if e.1 = keyN l.1 then none else some e) (by rw [List.length_map]) (by omega) ?_ ?_ ?_ ?_ (fun H' b B' s' => next H' b B' s')
  · intro i e o od H' C N ee eo s' yes no
    rw [List.getElem?_map, ee] at eo
    obtain rfl : (if e.1 = keyN l.1 then none else some e) = o := Option.some.inj eo
    obtain ⟨p, ep, pl⟩ := paired_get B.l.e ee
    have tk : ∀ a vs, H0 a = some (.tup vs) → H' a = some (.tup vs) := fun a vs e => s' _ _ (by
      have ne : a ≠ d := fun z => by rw [z, B.l.o] at e; cases e
      rw [upd_ne ne]; exact e)
    obtain ⟨d1, d2⟩ := key_cmp (K := K) (pl.mono tk) (tk _ _ KA.o)
    refine ⟨rfl, _, rfl, _, rfl, _, _, d1, d2, tupD_shaped _, tupD_shaped _, _, rfl, ?_⟩
    rw [tupD_eqv, key_dec pl]
    by_cases z : e.1 = keyN l.1
    · rw [decide_eq_true z]
      rw [if_pos z] at no
      exact no rfl H' (Same.refl _)
    · rw [decide_eq_false z]
      rw [if_neg z] at yes
      have ek : (es.map (·.1))[i]? = some e.1 := by rw [List.getElem?_map, ee]; rfl
      have ev : (es.map (·.2))[i]? = some e.2 := by rw [List.getElem?_map, ee]; rfl
      refine ⟨_, rfl, _, rfl, _, rfl, d, _, _, e.1, i, e.2, rfl, .inr ⟨od, s' _ _ upd_same⟩, mx.mono tk, (mx.is_ i e.1 e.2 ek ev).mono tk, ek, ev, (by show 2 ≤ sizeLine; decide), fun t nt => ?_⟩
      exact yes e rfl t _ (same_new nt) upd_same
  · rw [opt_filter]
    intro e he
    exact mix_key mx (List.mem_filter.mp he).1
  · rw [opt_filter]
    exact mx.nd.sublist (List.filter_sublist.map _)
  · rw [opt_filter]
    intro H' p s' op m'
    have lk : keyN l.1 ∈ es.map (·.1) := by rw [enk]; exact List.mem_map.mpr ⟨l, KA.m, rfl⟩
    obtain ⟨e0, he0, ek0⟩ := List.mem_map.mp lk
    have lt : (es.filter fun e => !decide (e.1 = keyN l.1)).length < es.length := List.length_filter_lt_length_iff_exists.mpr ⟨e0, he0, by simp [ek0]⟩
    exact nopl_len (fun _ => (true, true)) op m' (by omega) (fun e he => ens_ok (B.l.e.mono fun _ _ e => s' _ _ e) lsh (List.mem_filter.mp he).1) (by omega)
end
end L2.TB
/-! _law_bent_plans: truths -/
namespace L2.TB
open PySem PySem.Spec PyProof.Rows MK
theorem boot_any' : bootBuiltins "any" = some (.builtin "any") := by decide +kernel
theorem in_01 (k : Int) : inV (.int k) [.int 0, .int 1] = decide (k = 0 ∨ k = 1) := by
  unfold inV
  rw [Bool.eq_iff_iff, List.any_eq_true, decide_eq_true_eq]
  constructor
  · rintro ⟨y, hy, e⟩
    rcases List.mem_cons.mp hy with rfl | hy
    · left
      have z : decide ((0 : Int) = k) = true := by simpa [eqV] using e
      exact (of_decide_eq_true z).symm
    · rw [List.mem_singleton] at hy
      subst hy
      right
      have z : decide ((1 : Int) = k) = true := by simpa [eqV] using e
      exact (of_decide_eq_true z).symm
  · rintro (rfl | rfl)
    · exact ⟨.int 0, by simp, by simp [eqV]⟩
    · exact ⟨.int 1, by simp, by simp [eqV]⟩
section
variable {P : Program} {w : World} {K : PySem.W.Frag} {mg : Str → Option Value} {base : Heap} {f : Addr} {cdv : Value} {A : Around} {outer : List Env} {s : Shared} {H : Hp} {E : XK}
theorem bent_2 (hr : Room 3 (A.deeper (envOfC "_law_bent_plans" (defScope sBentP) s.heap.objs.size f cdv))) (nT : mg "tuple" = none) :
    ∃ t, PS (cxOf CX0 P w K mg base NBp "_law_bent_plans" (defScope sBentP) f cdv A outer s H E).nox (bodyP.getD 1 (.Pass ⟨0, 0, 0, 0⟩)) t ∧ ∀ (D : Ends) (H0 : Hp) (d q k : Addr) (ks : List Int) (s3 s4 s5 : Option V),
      H0 k = some (.tup (ks.map V.int)) → ks.length < 1000 → (∀ H' tt, H' tt = some (.tup (ks.map truth)) → Same H0 H' → D.nx [some (.ref d), some (.ref q), some (.ref k), some (.ref tt), s4, s5] H') → t D [some (.ref d), some (.ref q), some (.ref k), s3, s4, s5] H0 := by
  have nd := scBp.nd
  refine ⟨_, ps_set (i := 3) nd rfl (Or.inr rfl) (pe_callTy (r := rTupOf K) call_tuple_of rfl nT boot_tuple' (pa_cons (pe_lc (own := [("one", 5)]) (tt := tYes) rfl nd (pi_seq (pv 2)) (blkOk_by (N := NBp) (sc := defScope sBentP) (by decide +kernel)) (fun _ _ _ _ _ => pg_name (i := 5) nd rfl (Or.inl rfl)) (fun _ _ _ _ _ => pts_nil)
    (fun _ _ _ _ _ => pe_ifExp (pt_cmpR (r := rIn K false) op_in_seq (pv 5) (pe_tup (pa_cons pe_int (pa_cons pe_int pa_nil))) rfl) (pe_cmpR op_eq (pv 5) pe_int (nomark _)) (pv 5))) pa_nil)), ?_⟩
  intro D H0 d q k ks s3 s4 s5 ok sh next
  refine ⟨_, rfl, lc_seq (.inr rfl) ok (by rw [List.length_map]; omega) (fun _ => true) (fun v => match v with | .int k => truth k | _ => .non) ?_ ?_⟩
  · rintro i v H2 Cn Nn ev s2 yes no
    rw [List.getElem?_map] at ev
    obtain ⟨n, en, rfl⟩ := Option.map_eq_some_iff.mp ev
    refine ⟨rfl, _, rfl, (by show 2 ≤ sizeLine; decide), fun t nt => ⟨t, [.int 0, .int 1], rfl, .inr (SqT.of upd_same), rfl, rfl, _, rfl, ?_⟩⟩
    have st := same_new (o := .tup [.int 0, .int 1]) nt
    have yes : Cn (truth n) _ := yes rfl _ st
    have e : (if false then !inV (.int n) [.int 0, .int 1] else inV (.int n) [.int 0, .int 1]) = decide (n = 0 ∨ n = 1) := in_01 n
    rw [e]
    unfold truth at yes
    by_cases z : n = 0 ∨ n = 1
    · rw [if_pos z] at yes
      rw [decide_eq_true z]
      refine iteT ⟨_, rfl, rfl, ?_⟩
      rw [dec_int2]
      exact yes
    · rw [if_neg z] at yes
      rw [decide_eq_false z]
      exact iteF ⟨_, rfl, yes⟩
  · intro H2 l nl ol s2
    have e : ((ks.map V.int).filter fun _ => true).map (fun v => match v with | .int k => truth k | _ => V.non) = ks.map truth := by
      rw [List.filter_eq_self.mpr (fun _ _ => rfl), List.map_map]
      rfl
    rw [e] at ol
    refine ⟨l, _, rfl, .inl ⟨SqL.of ol, fun t nt => ?_⟩⟩
    exact next _ t upd_same (s2.trans (same_new nt))
theorem bent_3 (hr : Room 3 (A.deeper (envOfC "_law_bent_plans" (defScope sBentP) s.heap.objs.size f cdv))) (nD : mg "dict" = none) (nY : mg "any" = none) :
    ∃ t, PS (cxOf CX0 P w K mg base NBp "_law_bent_plans" (defScope sBentP) f cdv A outer s H E).nox (bodyP.getD 2 (.Pass ⟨0, 0, 0, 0⟩)) t ∧ ∀ (D : Ends) (H0 : Hp) (d q k tt : Addr) (es : List En) (L : Lot) (bs : List V) (l : List Int × Int) (s4 s5 : Option V),
      BentS w H0 d q es L bs → bs.length < 1000 → (L.map (·.1)).Nodup → (∀ p ∈ L, p.1.length < 1000) → L.length < 1000 → KeyAt H0 k L l → H0 tt = some (.tup (l.1.map truth)) → (∀ H' bs', BentS w H' d q es L bs' → bs'.length ≤ bs.length + 1 → ButQ q H0 H' → D.nx [some (.ref d), some (.ref q), some (.ref k), some (.ref tt), s4, s5] H') →
      t D [some (.ref d), some (.ref q), some (.ref k), some (.ref tt), s4, s5] H0 := by
  have nd := scBp.nd
  have hu := hu_in hr
  have hu64 := hr.units
  refine ⟨_, ps_if (pt_val (pe_callB (r := rAny K) (cr_any rfl) rfl nY boot_any' (pa_cons (pe_lc (own := [("one", 5)]) (tt := tYes) rfl nd (pi_seq (pv 2)) (blkOk_by (N := NBp) (sc := defScope sBentP) (by decide +kernel)) (fun _ _ _ _ _ => pg_name (i := 5) nd rfl (Or.inl rfl)) (fun _ _ _ _ _ => pts_nil)
      (fun _ _ _ _ _ => pe_cmpR (r := rIn K false) op_in_seq (pv 5) (pe_tup (pa_cons pe_int (pa_cons pe_int pa_nil))) rfl)) pa_nil)))
    (pss_one (ps_expr (pe_bm PySem.F.plainAttrs_list PySem.F.slot_list_append PySem.F.type_list_append mt_append (pv 1) (pa_cons (pe_callTy (call_dictPXw rfl rfl (hu_in2 hr)) rfl nD boot_dict' (pa_cons (pe_lock (pe_lc (own := [("one", 5)]) (tt := tYes) rfl nd (pi_keysXw rfl (pv 0)) (blkOk_by (N := NBp) (sc := defScope sBentP) (by decide +kernel)) (fun _ _ _ _ _ => pg_name (i := 5) nd rfl (Or.inl rfl))
      (fun _ _ _ _ _ => pts_nil) (fun _ _ _ _ _ => pe_tup (pa_cons (pe_ifExp (pt_cmpR (r := rEqD K) (op_eqD hu64) (pv 5) (pv 2) (nomark _)) (pv 3) (pv 5)) (pa_cons (pe_dgetXw rfl hu (pv 0) (pv 5) (fun _ _ => rfl)) pa_nil))))) pa_nil)) pa_nil)))) pss_nil, ?_⟩
  intro D H0 d q k tt es L bs l s4 s5 B few lnd lsh lfew KA ott next
  have le : es.length = L.length := Paired.length B.l.e
  have enk := B.l.e.keys
  have mx := B.l.e.mix lnd
  have ksh := lsh l KA.m
  refine ⟨_, rfl, lc_seq (.inr rfl) KA.o (by rw [List.length_map]; omega) (fun _ => true) (fun v => match v with | .int k => .bl (decide (k = 0 ∨ k = 1)) | _ => .non) ?_ ?_⟩
  · rintro i v H2 Cn Nn ev s2 yes no
    rw [List.getElem?_map] at ev
    obtain ⟨n, en, rfl⟩ := Option.map_eq_some_iff.mp ev
    refine ⟨rfl, _, rfl, (by show 2 ≤ sizeLine; decide), fun t nt => ⟨t, [.int 0, .int 1], rfl, .inr (SqT.of upd_same), rfl, rfl, ?_⟩⟩
    have st := same_new (o := .tup [.int 0, .int 1]) nt
    have yes : Cn (.bl (decide (n = 0 ∨ n = 1))) _ := yes rfl _ st
    have e : (if false then !inV (.int n) [.int 0, .int 1] else inV (.int n) [.int 0, .int 1]) = decide (n = 0 ∨ n = 1) := in_01 n
    rw [e]
    exact yes
  · intro H2 D2 nD2 oD2 s2
    have e : ((l.1.map V.int).filter fun _ => true).map (fun v => match v with | .int k => V.bl (decide (k = 0 ∨ k = 1)) | _ => V.non) = (l.1.map fun k => decide (k = 0 ∨ k = 1)).map V.bl := by
      rw [List.filter_eq_self.mpr (fun _ _ => rfl), List.map_map, List.map_map]
      rfl
    rw [e] at oD2
    refine ⟨D2, _, rfl, SqL.of oD2, _, rfl, ?_⟩
    have e2 : (l.1.map fun k => decide (k = 0 ∨ k = 1)).any id = l.1.any fun k => decide (k = 0 ∨ k = 1) := by rw [List.any_map]; rfl
    rw [e2]
    have B2 := B.same s2
    cases any : l.1.any fun k => decide (k = 0 ∨ k = 1) with
    | false => exact iteF (next _ bs B2 (by omega) (ButQ.of s2))
    | true =>
      refine iteT ?_
      have ott2 := s2 _ _ ott
      have KA2 : KeyAt H2 k L l := ⟨s2 _ _ KA.o, KA.m⟩
      have mx2 := B2.l.e.mix lnd
      refine app_dict B2 few rfl rfl (es.map fun e => some (if e.1 = keyN l.1 then (e.1, V.ref tt, e.2.2) else e)) (by rw [List.length_map]) (by omega) ?_ ?_ ?_ ?_ (fun H' b B' s' => next H' _ B' (by rw [List.length_append]; exact Nat.le_refl _) ((ButQ.of s2).trans s'))
      · intro i e o od H' C N ee eo s' yes no
        rw [List.getElem?_map, ee] at eo
        obtain rfl : some (if e.1 = keyN l.1 then (e.1, V.ref tt, e.2.2) else e) = o := Option.some.inj eo
        obtain ⟨p, ep, pl⟩ := paired_get B2.l.e ee
        have tk : ∀ a vs, H2 a = some (.tup vs) → H' a = some (.tup vs) := fun a vs e => s' _ _ (by
          have ne : a ≠ d := fun z => by rw [z, B2.l.o] at e; cases e
          rw [upd_ne ne]; exact e)
        obtain ⟨d1, d2⟩ := key_cmp (K := K) (pl.mono tk) (tk _ _ KA2.o)
        have ek : (es.map (·.1))[i]? = some e.1 := by rw [List.getElem?_map, ee]; rfl
        have ev : (es.map (·.2))[i]? = some e.2 := by rw [List.getElem?_map, ee]; rfl
        refine ⟨rfl, _, rfl, _, rfl, _, _, d1, d2, tupD_shaped _, tupD_shaped _, _, rfl, ?_⟩
        rw [tupD_eqv, key_dec pl]
        have yes := yes _ rfl
        by_cases z : e.1 = keyN l.1
        · rw [decide_eq_true z]
          rw [if_pos z] at yes
          refine iteT ⟨_, rfl, _, rfl, _, rfl, d, _, _, e.1, i, e.2, rfl, .inr ⟨od, s' _ _ upd_same⟩, mx2.mono tk, (mx2.is_ i e.1 e.2 ek ev).mono tk, ek, ev, (by show 2 ≤ sizeLine; decide), fun t nt => ?_⟩
          exact yes t _ (same_new nt) upd_same
        · rw [decide_eq_false z]
          rw [if_neg z] at yes
          refine iteF ⟨_, rfl, _, rfl, _, rfl, d, _, _, e.1, i, e.2, rfl, .inr ⟨od, s' _ _ upd_same⟩, mx2.mono tk, (mx2.is_ i e.1 e.2 ek ev).mono tk, ek, ev, (by show 2 ≤ sizeLine; decide), fun t nt => ?_⟩
          exact yes t _ (same_new nt) upd_same
      · rw [opt_some]
        intro x hx
        obtain ⟨e, he, rfl⟩ := List.mem_map.mp hx
        have mk := mix_key mx2 he
        by_cases z : e.1 = keyN l.1
        · rw [if_pos z]
          exact ⟨by show KeyH H2 e.1 (.ref tt); rw [z]; exact truth_key ott2, mk.2⟩
        · rw [if_neg z]
          exact mk
      · rw [opt_some, List.map_map]
        have e3 : (es.map ((fun e : En => e.1) ∘ fun e => if e.1 = keyN l.1 then (e.1, V.ref tt, e.2.2) else e)) = es.map (·.1) := List.map_congr_left fun e _ => by
          show (if e.1 = keyN l.1 then (e.1, V.ref tt, e.2.2) else e).1 = e.1
          by_cases z : e.1 = keyN l.1
          · rw [if_pos z]
          · rw [if_neg z]
        rw [e3]
        exact mx2.nd
      · rw [opt_some]
        intro H' p s' op m'
        have lk : keyN l.1 ∈ es.map (·.1) := by rw [enk]; exact List.mem_map.mpr ⟨l, KA.m, rfl⟩
        obtain ⟨e0, he0, ek0⟩ := List.mem_map.mp lk
        refine nopl_map (fun e => if e.1 = keyN l.1 then (e.1, V.ref tt, e.2.2) else e) (fun e => if e.1 = keyN l.1 then (false, true) else (true, true)) op m' (by omega) (fun e he => ?_) ⟨e0, he0, ?_⟩
        · have ok := ens_ok (B2.l.e.mono fun _ _ e => s' _ _ e) lsh he
          by_cases z : e.1 = keyN l.1
          · rw [if_pos z, if_pos z]
            exact ⟨truth_ky (s' _ _ ott2) ksh any, ok.2⟩
          · rw [if_neg z, if_neg z]
            exact ok
        · rw [if_pos ek0, if_pos ek0]
          rfl
end
end L2.TB
/-! _law_bent_plans: odd answers -/
namespace L2.TB
open PySem PySem.Spec PyProof.Rows MK
def oddVs (v : Int) : List V := [.int (v + 1), .non, .str (toString v)] ++ (List.replicate (Int.toNat (if decide (v = 0 ∨ v = 1) then 1 else 0)) [V.bl (decide (v = 1))]).flatten
theorem odd_len (v : Int) : (oddVs v).length ≤ 4 := by
  unfold oddVs
  by_cases z : v = 0 ∨ v = 1
  · rw [decide_eq_true z]; simp
  · rw [decide_eq_false z]; simp
theorem odd_all {L : Lot} (nd : (L.map (·.1)).Nodup) {l : List Int × Int} (m : l ∈ L) : ∀ x ∈ oddVs l.2, ∃ b, OddV L l.1 x b := by
  have at_ := valN_at nd m
  intro x hx
  unfold oddVs at hx
  rcases List.mem_append.mp hx with hx | hx
  · simp only [List.mem_cons, List.not_mem_nil, or_false] at hx
    rcases hx with rfl | rfl | rfl
    · refine ⟨true, .int _, fun _ e => ?_⟩
      rw [at_] at e
      have := V.int.inj (Option.some.inj e)
      omega
    · exact ⟨false, .non, fun z => by cases z⟩
    · exact ⟨false, .str _, fun z => by cases z⟩
  · obtain ⟨ys, hy, hx⟩ := List.mem_flatten.mp hx
    rw [List.eq_of_mem_replicate hy, List.mem_singleton] at hx
    rw [hx]
    exact ⟨false, .bl _, fun z => by cases z⟩
section
variable {P : Program} {w : World} {K : PySem.W.Frag} {mg : Str → Option Value} {base : Heap} {f : Addr} {cdv : Value} {A : Around} {outer : List Env} {s : Shared} {H : Hp} {E : XK}
theorem bent_4 (hr : Room 3 (A.deeper (envOfC "_law_bent_plans" (defScope sBentP) s.heap.objs.size f cdv))) (nD : mg "dict" = none) (nS : mg "str" = none) (nI : mg "int" = none) :
    ∃ t, PS (cxOf CX0 P w K mg base NBp "_law_bent_plans" (defScope sBentP) f cdv A outer s H E).nox (bodyP.getD 3 (.Pass ⟨0, 0, 0, 0⟩)) t ∧ ∀ (D : Ends) (H0 : Hp) (d q k tt : Addr) (es : List En) (L : Lot) (bs : List V) (l : List Int × Int) (s4 s5 : Option V),
      BentS w H0 d q es L bs → bs.length < 900 → (L.map (·.1)).Nodup → (∀ p ∈ L, p.1.length < 1000) → L.length < 1000 → KeyAt H0 k L l → l.2.natAbs.log2 < 1920 → (∀ H' bs' s4 s5, BentS w H' d q es L bs' → bs'.length ≤ bs.length + 4 → ButQ q H0 H' → D.nx [some (.ref d), some (.ref q), some (.ref k), some (.ref tt), s4, s5] H') →
      t D [some (.ref d), some (.ref q), some (.ref k), some (.ref tt), s4, s5] H0 := by
  have nd := scBp.nd
  have hu := hu_in hr
  have hu64 := hr.units
  refine ⟨_, ps_for PassesOwn.never rfl (pi_list (pe_op op_cat (pe_lst (pa_cons (pe_op op_add (pe_dgetXw rfl hu (pv 0) (pv 2) (fun _ _ => rfl)) pe_int) (pa_cons pe_non (pa_cons (pe_callTy call_str_int rfl nS boot_str' (pa_cons (pe_dgetXw rfl hu (pv 0) (pv 2) (fun _ _ => rfl)) pa_nil)) pa_nil))))
      (pe_op op_rep (pe_lst (pa_cons (pe_cmpR op_eq (pe_dgetXw rfl hu (pv 0) (pv 2) (fun _ _ => rfl)) pe_int (nomark _)) pa_nil)) (pe_callTy call_int1 rfl nI boot_int (pa_cons (pe_cmpR (r := rIn K false) op_in_seq (pe_dgetXw rfl hu (pv 0) (pv 2) (fun _ _ => rfl)) (pe_tup (pa_cons pe_int (pa_cons pe_int pa_nil))) rfl) pa_nil)))))
    (pg_name (i := 4) nd rfl (Or.inr rfl))
    (pss_one (ps_expr (pe_bm PySem.F.plainAttrs_list PySem.F.slot_list_append PySem.F.type_list_append mt_append (pv 1) (pa_cons (pe_callTy (call_dictPXw rfl rfl (hu_in2 hr)) rfl nD boot_dict' (pa_cons (pe_lock (pe_lc (own := [("one", 5)]) (tt := tYes) rfl nd (pi_keysXw rfl (pv 0)) (blkOk_by (N := NBp) (sc := defScope sBentP) (by decide +kernel)) (fun _ _ _ _ _ => pg_name (i := 5) nd rfl (Or.inl rfl))
      (fun _ _ _ _ _ => pts_nil) (fun _ _ _ _ _ => pe_tup (pa_cons (pv 5) (pa_cons (pe_ifExp (pt_cmpR (r := rNeD K) (op_neD hu64) (pv 5) (pv 2) (nomark _)) (pe_dgetXw rfl hu (pv 0) (pv 5) (fun _ _ => rfl)) (pv 4)) pa_nil))))) pa_nil)) pa_nil)))), ?_⟩
  intro D H0 d q k tt es L bs l s4 s5 B few lnd lsh lfew KA hv next
  have le : es.length = L.length := Paired.length B.l.e
  have enk := B.l.e.keys
  have vv := (B.l.e.val (keyN l.1)).trans (valN_at lnd KA.m)
  obtain ⟨j, e, ej, ek, ev⟩ := valE_in vv
  have ek' : (es.map (·.1))[j]? = some (keyN l.1) := by rw [List.getElem?_map, ej, ← ek]; rfl
  have ev' : (es.map (·.2))[j]? = some e.2 := by rw [List.getElem?_map, ej]; rfl
  refine ⟨_, rfl, _, rfl, d, _, _, keyN l.1, j, e.2, rfl, .inl B.l.o, B.l.e.mix lnd, keyH_ints KA.o, ek', ev', ?_⟩
  rw [ev]
  refine ⟨_, _, rfl, rfl, ?_⟩
  refine ⟨_, rfl, _, rfl, d, _, _, keyN l.1, j, e.2, rfl, .inl B.l.o, B.l.e.mix lnd, keyH_ints KA.o, ek', ev', ?_⟩
  rw [ev]
  refine ⟨_, rfl, hv, (by show 3 ≤ sizeLine; decide), fun p1 np1 => ?_⟩
  have k1 := same_new (o := .lst [.int (l.2 + 1), .non, .str (toString l.2)]) np1
  have o1 : upd H0 p1 (.lst [.int (l.2 + 1), .non, .str (toString l.2)]) p1 = some (.lst [.int (l.2 + 1), .non, .str (toString l.2)]) := upd_same
  generalize upd H0 p1 (.lst [.int (l.2 + 1), .non, .str (toString l.2)]) = H1 at k1 o1
  refine ⟨_, rfl, _, rfl, d, _, _, keyN l.1, j, e.2, rfl, .inl (B.l.same k1).o, (B.l.same k1).e.mix lnd, keyH_ints (k1 _ _ KA.o), ek', ev', ?_⟩
  rw [ev]
  refine ⟨rfl, ?_⟩
  rw [dec_int2]
  refine ⟨(by show 1 ≤ sizeLine; decide), fun p2 np2 => ?_⟩
  have k2 := k1.trans (same_new (o := .lst [.bl (decide (l.2 = 1))]) np2)
  have o12 := same_new (o := .lst [.bl (decide (l.2 = 1))]) np2 _ _ o1
  have o2 : upd H1 p2 (.lst [.bl (decide (l.2 = 1))]) p2 = some (.lst [.bl (decide (l.2 = 1))]) := upd_same
  generalize upd H1 p2 (.lst [.bl (decide (l.2 = 1))]) = H2 at k2 o12 o2
  refine ⟨_, rfl, _, rfl, d, _, _, keyN l.1, j, e.2, rfl, .inl (B.l.same k2).o, (B.l.same k2).e.mix lnd, keyH_ints (k2 _ _ KA.o), ek', ev', ?_⟩
  rw [ev]
  refine ⟨(by show 2 ≤ sizeLine; decide), fun p3 np3 => ⟨p3, [.int 0, .int 1], rfl, .inr (SqT.of upd_same), rfl, rfl, ?_⟩⟩
  have ein : (if false then !inV (.int l.2) [.int 0, .int 1] else inV (.int l.2) [.int 0, .int 1]) = decide (l.2 = 0 ∨ l.2 = 1) := in_01 l.2
  rw [ein]
  have k3 := k2.trans (same_new (o := .tup [.int 0, .int 1]) np3)
  have o13 := same_new (o := .tup [.int 0, .int 1]) np3 _ _ o12
  have o23 := same_new (o := .tup [.int 0, .int 1]) np3 _ _ o2
  generalize upd H2 p3 (.tup [.int 0, .int 1]) = H3 at k3 o13 o23
  refine .inr ⟨_, rfl, p2, _, [.bl (decide (l.2 = 1))], rfl, rfl, o23, ?_, ?_, ?_, fun p4 np4 => ?_⟩
  · split <;> decide
  · split <;> decide
  · rw [sizeLine_eq]; split <;> simp
  have k4 := k3.trans (same_new (o := .lst (List.replicate (Int.toNat (if decide (l.2 = 0 ∨ l.2 = 1) then 1 else 0)) [V.bl (decide (l.2 = 1))]).flatten) np4)
  have o14 := same_new (o := .lst (List.replicate (Int.toNat (if decide (l.2 = 0 ∨ l.2 = 1) then 1 else 0)) [V.bl (decide (l.2 = 1))]).flatten) np4 _ _ o13
  have o4 := upd_same (H := H3) (a := p4) (o := .lst (List.replicate (Int.toNat (if decide (l.2 = 0 ∨ l.2 = 1) then 1 else 0)) [V.bl (decide (l.2 = 1))]).flatten)
  have ll := odd_len l.2
  unfold oddVs at ll
  refine ⟨p1, p4, _, _, rfl, rfl, o14, o4, (by rw [List.length_append] at ll; rw [sizeLine_eq]; omega), fun p5 np5 => ?_⟩
  have k5 := k4.trans (same_new (o := .lst (oddVs l.2)) np5)
  have o5 := upd_same (H := upd H3 p4 (.lst (List.replicate (Int.toNat (if decide (l.2 = 0 ∨ l.2 = 1) then 1 else 0)) [V.bl (decide (l.2 = 1))]).flatten)) (a := p5) (o := .lst (oddVs l.2))
  have p5q : p5 ≠ q := fun z => by rw [z] at np5; rw [k4 _ _ B.o] at np5; cases np5
  refine ⟨p5, rfl, ⟨_, SqL.of o5⟩, for_list (xs := oddVs l.2) (fun i σ H' => H' p5 = some (.lst (oddVs l.2)) ∧ ButQ q H0 H' ∧ (∃ bs', BentS w H' d q es L bs' ∧ bs'.length ≤ bs.length + i) ∧ ∃ s4 s5, σ = [some (.ref d), some (.ref q), some (.ref k), some (.ref tt), s4, s5])
    ⟨o5, ButQ.of k5, ⟨bs, B.same k5, Nat.le_refl _⟩, _, _, rfl⟩ (fun i σ H' _ h => SqL.of h.1) ?_ ?_⟩
  · rintro i x σ H6 ex ⟨o6, q6, ⟨bs6, B6, l6⟩, s4', s5', rfl⟩
    have hi : i < (oddVs l.2).length := (List.getElem?_eq_some_iff.mp ex).1
    have ol := odd_len l.2
    obtain ⟨bo, ov⟩ := odd_all lnd KA.m x (List.mem_of_getElem? ex)
    have kq : k ≠ q := fun z => by have h := KA.o; rw [z, B.o] at h; cases h
    have KA6 : KeyAt H6 k L l := ⟨q6 _ _ kq KA.o, KA.m⟩
    have mx6 := B6.l.e.mix lnd
    refine app_dict B6 (by omega) rfl rfl (es.map fun e => some (if e.1 = keyN l.1 then (e.1, e.2.1, x) else e)) (by rw [List.length_map]) (by omega) ?_ ?_ ?_ ?_ (fun H' b B' s' => ⟨s' _ _ p5q o6, q6.trans s', ⟨_, B', by rw [List.length_append]; show _ + 1 ≤ _; omega⟩, _, _, rfl⟩)
    · intro i e o od H' C N ee eo s' yes no
      rw [List.getElem?_map, ee] at eo
      obtain rfl : some (if e.1 = keyN l.1 then (e.1, e.2.1, x) else e) = o := Option.some.inj eo
      obtain ⟨p, ep, pl⟩ := paired_get B6.l.e ee
      have tk : ∀ a vs, H6 a = some (.tup vs) → H' a = some (.tup vs) := fun a vs e => s' _ _ (by
        have ne : a ≠ d := fun z => by rw [z, B6.l.o] at e; cases e
        rw [upd_ne ne]; exact e)
      obtain ⟨d1, d2⟩ := key_cmp (K := K) (pl.mono tk) (tk _ _ KA6.o)
      have ek : (es.map (·.1))[i]? = some e.1 := by rw [List.getElem?_map, ee]; rfl
      have ev : (es.map (·.2))[i]? = some e.2 := by rw [List.getElem?_map, ee]; rfl
      refine ⟨rfl, _, rfl, _, rfl, _, rfl, _, _, d1, d2, tupD_shaped _, tupD_shaped _, _, rfl, ?_⟩
      rw [tupD_eqv, key_dec pl]
      have yes := yes _ rfl
      by_cases z : e.1 = keyN l.1
      · rw [decide_eq_true z]
        rw [if_pos z] at yes
        refine iteF ⟨_, rfl, (by show 2 ≤ sizeLine; decide), fun t nt => ?_⟩
        exact yes t _ (same_new nt) upd_same
      · rw [decide_eq_false z]
        rw [if_neg z] at yes
        refine iteT ⟨_, rfl, _, rfl, d, _, _, e.1, i, e.2, rfl, .inr ⟨od, s' _ _ upd_same⟩, mx6.mono tk, (mx6.is_ i e.1 e.2 ek ev).mono tk, ek, ev, (by show 2 ≤ sizeLine; decide), fun t nt => ?_⟩
        exact yes t _ (same_new nt) upd_same
    · rw [opt_some]
      intro y hy
      obtain ⟨e, he, rfl⟩ := List.mem_map.mp hy
      have mk := mix_key mx6 he
      by_cases z : e.1 = keyN l.1
      · rw [if_pos z]
        exact mk
      · rw [if_neg z]
        exact mk
    · rw [opt_some, List.map_map]
      have e3 : (es.map ((fun e : En => e.1) ∘ fun e => if e.1 = keyN l.1 then (e.1, e.2.1, x) else e)) = es.map (·.1) := List.map_congr_left fun e _ => by
        show (if e.1 = keyN l.1 then (e.1, e.2.1, x) else e).1 = e.1
        by_cases z : e.1 = keyN l.1
        · rw [if_pos z]
        · rw [if_neg z]
      rw [e3]
      exact mx6.nd
    · rw [opt_some]
      intro H' p s' op m'
      refine nopl_map (fun e => if e.1 = keyN l.1 then (e.1, e.2.1, x) else e) (fun e => if e.1 = keyN l.1 then (true, bo) else (true, true)) op m' (by omega) (fun e he => ?_) ⟨e, List.mem_of_getElem? ej, ?_⟩
      · have ok := ens_ok (B6.l.e.mono fun _ _ e => s' _ _ e) lsh he
        by_cases z : e.1 = keyN l.1
        · rw [if_pos z, if_pos z]
          exact ⟨ok.1, ov.p⟩
        · rw [if_neg z, if_neg z]
          exact ok
      · rw [if_pos ek, if_pos ek]
        unfold goodE
        cases hb : bo with
        | false => simp
        | true =>
          have ne := ov.no hb
          show (true && ((valN L e.1).isSome && (true && decide (some x = valN L e.1)))) = false
          rw [ek, decide_eq_false (fun z => ne z.symm)]
          simp
  · rintro σ H6 ⟨o6, q6, ⟨bs6, B6, l6⟩, s4', s5', rfl⟩
    have ol := odd_len l.2
    exact next H6 bs6 s4' s5' B6 (by omega) q6
end
end L2.TB
/-! _law_bent_plans -/
namespace L2.TB
open PySem PySem.Spec PyProof.Rows MK
def spBentP (w : World) : Sp := fun vs H Q _ => ∃ (d : Addr) (es : List En) (L : Lot), vs = [.ref d] ∧ LotAt w H d es L ∧ (L.map (·.1)).Nodup ∧ (∀ p ∈ L, p.1.length < 1000 ∧ p.2.natAbs.log2 < 1920) ∧ L.length < 900 ∧
  ∀ H' q bs, H q = none → H' q = some (.lst bs) → bs.length < 900 → (∀ b ∈ bs, NoPl w H' L b) → Same H H' → Q (.ref q) H'
def moreE (v : V) : En := (.text "more", .str "more", v)
theorem more_nd {H : Hp} {es : List En} {L : Lot} (en : Ens H es L) (nd : (L.map (·.1)).Nodup) (v : V) : ((es ++ [moreE v]).map (·.1)).Nodup := by
  rw [List.map_append, List.nodup_append]
  refine ⟨(en.mix nd).nd, by simp, fun a ha b hb e => ?_⟩
  rw [en.keys] at ha
  obtain ⟨p, _, rfl⟩ := List.mem_map.mp ha
  obtain rfl : b = (moreE v).1 := List.mem_singleton.mp (show b ∈ [(moreE v).1] from hb)
  unfold moreE keyN at e
  cases e
theorem more_k {H : Hp} (v : V) : KeyH H (moreE v).1 (moreE v).2.1 := .str _
theorem more_d (v : V) : (moreE v).1.depth ≤ 8 := by unfold moreE; simp [NestedKey.depth]
theorem cut_two (xs : List V) : cutV xs none (some 2) = xs.take 2 := by
  have e1 : HT.sIx xs.length 0 none = 0 := rfl
  have e2 : HT.sIx xs.length xs.length (some 2) = min 2 xs.length := by
    unfold HT.sIx
    simp only []
    rw [if_neg (show ¬ (2 : Int) < 0 by omega)]
    omega
  unfold cutV
  rw [e1, e2]
  simp only [List.drop_zero, Nat.sub_zero]
  by_cases h : 2 ≤ xs.length
  · rw [Nat.min_eq_left h]
  · rw [Nat.min_eq_right (by omega), List.take_length, List.take_of_length_le (by omega)]
section
variable {P : Program} {w : World} {K : PySem.W.Frag} {mg : Str → Option Value} {base : Heap} {f : Addr} {fd : FuncData}
theorem ok_bentP (F : Fun K "_law_bent_plans" "_law_bent_plans" sBentP f fd) (nL : mg "list" = none) (nD : mg "dict" = none) (nT : mg "tuple" = none) (nY : mg "any" = none) (nS : mg "str" = none) (nI : mg "int" = none) : FnOk P w K mg base CX0 4 f fd ["plan"] (spBentP w) := by
  refine F.ok scBp (fun vs H Q E h => by obtain ⟨d, es, L, e, _⟩ := h; rw [e]; rfl) fun cdv A outer s H vs Q E hr hsp => ?_
  obtain ⟨d, es, L, rfl, LA, lnd, lsh, lfew, hq⟩ := hsp
  have nd := scBp.nd
  obtain ⟨t1, p1, r1⟩ := bent_1 (P := P) (w := w) (K := K) (base := base) (f := f) (outer := outer) (H := H) (E := E) hr nD
  obtain ⟨t2, p2, r2⟩ := bent_2 (P := P) (w := w) (K := K) (base := base) (f := f) (outer := outer) (H := H) (E := E) hr nT
  obtain ⟨t3, p3, r3⟩ := bent_3 (P := P) (w := w) (K := K) (base := base) (f := f) (outer := outer) (H := H) (E := E) hr nD nY
  obtain ⟨t4, p4, r4⟩ := bent_4 (P := P) (w := w) (K := K) (base := base) (f := f) (outer := outer) (H := H) (E := E) hr nD nS nI
  refine ⟨_, pss_cons (ps_set (i := 1) nd rfl (Or.inl rfl) (pe_lst (pa_cons pe_non (pa_cons pe_int (pa_cons (pe_lst pa_nil) (pa_cons (pe_itemsX rfl rfl (pv 0) rfl nL (by decide +kernel)) (pa_cons (pe_callTy (call_dictPXw (w := w) rfl rfl (hu_in2 hr)) rfl nD boot_dict' (pa_cons (pe_op op_cat (pe_itemsX rfl rfl (pv 0) rfl nL (by decide +kernel)) (pe_lst (pa_cons (pe_tup (pa_cons pe_str (pa_cons pe_int pa_nil))) pa_nil))) pa_nil)) pa_nil)))))))
    (pss_cons (ps_for PassesOwn.never rfl (pi_list (pe_slice sl_list (pe_callTy (call_listX rfl) rfl nL boot_list' (pa_cons (pv 0) pa_nil)) po_none (po_some pe_int))) (pg_name (i := 2) nd rfl (Or.inr rfl)) (pss_cons p1 (pss_cons p2 (pss_cons p3 (pss_one p4)))))
    (pss_one (ps_ret (pv 1)))), ?_⟩
  have le : es.length = L.length := Paired.length LA.e
  have mx := LA.e.mix lnd
  refine ⟨(by show 0 ≤ sizeLine; decide), fun a1 na1 => ?_⟩
  have k1 := same_new (o := .lst []) na1
  have o1 : upd H a1 (.lst []) a1 = some (.lst []) := upd_same
  generalize upd H a1 (.lst []) = H1 at k1 o1
  refine ⟨_, rfl, d, es, rfl, .inl (k1 _ _ LA.o), fun H2 q2 ts2 s2 n2 o2 _ => ?_⟩
  have k2 := k1.trans s2
  refine ⟨_, rfl, d, es, rfl, .inl (k2 _ _ LA.o), fun H3 q3 ts3 s3 n3 o3 pr3 => ?_⟩
  have k3 := k2.trans s3
  refine ⟨(by show 2 ≤ sizeLine; decide), fun t nt => ⟨(by show 1 ≤ sizeLine; decide), fun p np => ?_⟩⟩
  have st := same_new (o := .tup [.str "more", .int 1]) nt
  have ot : upd H3 t (.tup [.str "more", .int 1]) t = some (.tup [.str "more", .int 1]) := upd_same
  generalize upd H3 t (.tup [.str "more", .int 1]) = H4 at st ot np
  have sp := same_new (o := .lst [.ref t]) np
  have op : upd H4 p (.lst [.ref t]) p = some (.lst [.ref t]) := upd_same
  generalize upd H4 p (.lst [.ref t]) = H5 at sp op
  have k35 := st.trans sp
  have l3 : ts3.length = es.length := Paired.length pr3
  refine ⟨q3, p, _, _, rfl, rfl, k35 _ _ o3, op, (by rw [sizeLine_eq, List.length_map]; show _ + 1 ≤ _; omega), fun p5 np5 => ?_⟩
  have s5 := same_new (o := .lst (ts3.map V.ref ++ [V.ref t])) np5
  have o5 : upd H5 p5 (.lst (ts3.map V.ref ++ [V.ref t])) p5 = some (.lst (ts3.map V.ref ++ [V.ref t])) := upd_same
  generalize upd H5 p5 (.lst (ts3.map V.ref ++ [V.ref t])) = H6 at s5 o5
  have k36 := k35.trans s5
  have k6 := k3.trans k36
  have pz : putsE [] (es ++ [moreE (.int 1)]) = es ++ [moreE (.int 1)] := by simpa using putsE_nd (es ++ [moreE (.int 1)]) [] (by simpa using more_nd LA.e lnd (.int 1))
  refine ⟨p5, ts3 ++ [t], es ++ [moreE (.int 1)], rfl, SqL.of (by rw [List.map_append]; exact o5), paired_snoc ⟨SqT.of ((sp.trans s5) _ _ ot), more_k _, more_d _⟩ ?_, fun pd npd m6 => ?_⟩
  · refine nth_pair ts3 es l3 fun i a e e1 e2 => ?_
    obtain ⟨y, ey, h1, h2⟩ := paired_get pr3 e1
    rw [e2] at ey
    obtain rfl := Option.some.inj ey
    have mk := mix_key mx (List.mem_of_getElem? e2)
    exact ⟨SqT.of (k36 _ _ h2), mk.1.mono fun _ _ e => k6 _ _ e, mk.2⟩
  rw [pz] at m6 ⊢
  have s7 := same_new (o := DE w pd (es ++ [moreE (.int 1)])) npd
  have o7 : upd H6 pd (DE w pd (es ++ [moreE (.int 1)])) pd = some (DE w pd (es ++ [moreE (.int 1)])) := upd_same
  generalize upd H6 pd (DE w pd (es ++ [moreE (.int 1)])) = H7 at s7 o7 m6
  have k7 := k6.trans s7
  have L7 := LA.same k7
  refine ⟨(by show 5 ≤ sizeLine; decide), fun q nq => ?_⟩
  have n7 : NoPl w H7 L (.ref pd) := by
    refine nopl_len (fun e => if e.1 = .text "more" then (false, true) else (true, true)) o7 m6 (by rw [List.length_append]; show _ + 1 < _; omega) (fun e he => ?_) (by rw [List.length_append]; show _ + 1 ≠ _; omega)
    rcases List.mem_append.mp he with he | he
    · have ok := ens_ok L7.e (fun p hp => (lsh p hp).1) he
      have ne : e.1 ≠ .text "more" := fun z => by
        obtain ⟨p, _, e1, _⟩ := goodE_self lnd LA.e he
        rw [e1] at z
        unfold keyN at z
        cases z
      rw [if_neg ne]
      exact ok
    · rw [List.mem_singleton] at he
      rw [he, if_pos (show (moreE (.int 1)).1 = .text "more" from rfl)]
      exact ⟨.str _, .int _⟩
  have sq := same_new (o := .lst [.non, .int 5, .ref a1, .ref q2, .ref pd]) nq
  have oq : upd H7 q (.lst [.non, .int 5, .ref a1, .ref q2, .ref pd]) q = some (.lst [.non, .int 5, .ref a1, .ref q2, .ref pd]) := upd_same
  have nqH : H q = none := k7.free nq
  have ne : ∀ {a o}, H7 a = some o → (V.ref a) ≠ .ref q := fun e z => by rw [V.ref.inj z, nq] at e; cases e
  have o1' := (s2.trans (s3.trans (k36.trans s7))) _ _ o1
  have o2' := (s3.trans (k36.trans s7)) _ _ o2
  have B8 : BentS w (upd H7 q (.lst [.non, .int 5, .ref a1, .ref q2, .ref pd])) d q es L [.non, .int 5, .ref a1, .ref q2, .ref pd] := by
    refine ⟨L7.same sq, oq, fun b hb => ?_⟩
    simp only [List.mem_cons, List.not_mem_nil, or_false] at hb
    rcases hb with rfl | rfl | rfl | rfl | rfl
    · exact ⟨(fun z => by cases z), .atm .non⟩
    · exact ⟨(fun z => by cases z), .atm (.int _)⟩
    · exact ⟨ne o1', .lst (sq _ _ o1')⟩
    · exact ⟨ne o2', .lst (sq _ _ o2')⟩
    · exact ⟨ne o7, n7.same sq⟩
  generalize upd H7 q (.lst [.non, .int 5, .ref a1, .ref q2, .ref pd]) = H8 at sq oq B8
  have k8 := k7.trans sq
  refine ⟨_, rfl, d, es, rfl, .inl B8.l.o, fun p9 np9 => ?_⟩
  have s9 := same_new (o := .lst (es.map fun e => e.2.1)) np9
  have o9 : upd H8 p9 (.lst (es.map fun e => e.2.1)) p9 = some (.lst (es.map fun e => e.2.1)) := upd_same
  generalize upd H8 p9 (.lst (es.map fun e => e.2.1)) = H9 at s9 o9
  refine ⟨(2 : Int), rfl, p9, _, rfl, SqL.of o9, fun pk npk => ?_⟩
  rw [cut_two]
  have sk := same_new (o := .lst ((es.map fun e => e.2.1).take 2)) npk
  have ok := upd_same (H := H9) (a := pk) (o := .lst ((es.map fun e => e.2.1).take 2))
  generalize upd H9 pk (.lst ((es.map fun e => e.2.1).take 2)) = H10 at sk ok
  have k810 := s9.trans sk
  have pkq : pk ≠ q := fun z => by rw [z, s9 _ _ oq] at npk; cases npk
  refine ⟨pk, rfl, ⟨_, SqL.of ok⟩, for_list (xs := (es.map fun e => e.2.1).take 2) (fun i σ H' => H' pk = some (.lst ((es.map fun e => e.2.1).take 2)) ∧ ButQ q H8 H' ∧ (∃ bs', BentS w H' d q es L bs' ∧ bs'.length ≤ 5 + 6 * i) ∧ ∃ s2 s3 s4 s5, σ = [some (.ref d), some (.ref q), s2, s3, s4, s5])
    ⟨ok, ButQ.of k810, ⟨_, B8.same k810, Nat.le_refl _⟩, _, _, _, _, rfl⟩ (fun i σ H' _ h => SqL.of h.1) ?_ ?_⟩
  · rintro i x σ H' ex ⟨op, bq, ⟨bs', B', lb⟩, s2', s3', s4', s5', rfl⟩
    have hi : i < ((es.map fun e => e.2.1).take 2).length := (List.getElem?_eq_some_iff.mp ex).1
    rw [List.length_take] at hi
    obtain ⟨e, he, rfl⟩ := List.mem_map.mp (List.mem_of_mem_take (List.mem_of_getElem? ex))
    obtain ⟨j, hj, ej⟩ := List.getElem_of_mem he
    obtain ⟨l, el, pl⟩ := paired_get B'.l.e (show es[j]? = some e by rw [List.getElem?_eq_getElem hj, ej])
    obtain ⟨kt, ek, okt⟩ := pl.t
    have lm : l ∈ L := List.mem_of_getElem? el
    have KA : KeyAt H' kt L l := ⟨okt, lm⟩
    rw [ek]
    have few : L.length < 1000 := by omega
    have lsh1 : ∀ p ∈ L, p.1.length < 1000 := fun p hp => (lsh p hp).1
    have pkn : ∀ {H1 H2 : Hp}, ButQ q H1 H2 → H1 pk = some (.lst ((es.map fun e => e.2.1).take 2)) → H2 pk = some (.lst ((es.map fun e => e.2.1).take 2)) := fun b e => b _ _ pkq e
    have kq : ∀ {H1 : Hp} {bs1 : List V} {v : List V} {a : Addr}, BentS w H1 d q es L bs1 → H1 a = some (.tup v) → a ≠ q := fun B e z => by rw [z, B.o] at e; cases e
    refine r1 _ _ d q kt es L bs' l _ _ _ B' (by omega) lnd lsh1 few KA fun H1 b1 B1 b01 => ?_
    have okt1 := b01 _ _ (kq B' okt) okt
    refine r2 _ _ d q kt l.1 _ _ _ okt1 (lsh1 l lm) fun H2 tt ott s12 => ?_
    have B2 := B1.same s12
    have okt2 := s12 _ _ okt1
    have l1 : (bs' ++ [b1]).length = bs'.length + 1 := by rw [List.length_append]; rfl
    refine r3 _ _ d q kt tt es L _ l _ _ B2 (by omega) lnd lsh1 few ⟨okt2, lm⟩ ott fun H3 bs3 B3 l3 b23 => ?_
    have okt3 := b23 _ _ (kq B2 okt2) okt2
    refine r4 _ _ d q kt tt es L _ l _ _ B3 (by omega) lnd lsh1 few ⟨okt3, lm⟩ (lsh l lm).2 fun H4 bs4 s4 s5 B4 l4 b34 => ?_
    have b04 := b01.trans ((ButQ.of s12).trans (b23.trans b34))
    exact ⟨pkn b04 op, bq.trans b04, ⟨bs4, B4, by omega⟩, _, _, _, _, rfl⟩
  · rintro σ H' ⟨op, bq, ⟨bs', B', lb⟩, s2', s3', s4', s5', rfl⟩
    have lt : ((es.map fun e => e.2.1).take 2).length ≤ 2 := List.length_take_le _ _
    refine ⟨_, rfl, hq H' q bs' nqH B'.o (by omega) (fun b hb => (B'.b b hb).2) fun b o e => ?_⟩
    exact bq _ _ (ne_of_none e nqH) (k8 _ _ e)
end
end L2.TB
/-! a row and more -/
namespace L2.TB
open PySem PySem.Spec PyProof.Rows MK
def deK (ns : List Str) (us : List Int) : List En := (ns.zip us).map fun p => (.text p.1, .str p.1, .int p.2)
theorem deK_len {ns : List Str} {us : List Int} (h : us.length = ns.length) : (deK ns us).length = ns.length := by
  unfold deK
  rw [List.length_map, List.length_zip]; omega
theorem deK_keys {ns : List Str} {us : List Int} (h : us.length = ns.length) : (deK ns us).map (·.1) = ns.map NestedKey.text := by
  unfold deK
  rw [List.map_map]
  have e : (ns.zip us).map ((fun x : En => x.1) ∘ fun p : Str × Int => ((.text p.1 : NestedKey), V.str p.1, V.int p.2)) = ((ns.zip us).map Prod.fst).map NestedKey.text := by rw [List.map_map]; rfl
  rw [e, List.map_fst_zip (by omega)]
theorem deK_at {ns : List Str} {us : List Int} {e : En} (h : e ∈ deK ns us) : ∃ x n, e = (.text x, .str x, .int n) := by
  unfold deK at h
  obtain ⟨p, _, rfl⟩ := List.mem_map.mp h
  exact ⟨_, _, rfl⟩
theorem deK_px {K : PySem.W.Frag} {H : Hp} {ns : List Str} {us : List Int} {ts : List Addr} (pr : Paired (fun (t : Addr) (q : Key × V) => H t = some (.tup [kV q.1, q.2])) ts (dk ns us)) : Paired (fun b x => PairX K H b x) ts (deK ns us) := by
  have l : ts.length = (deK ns us).length := by
    rw [Paired.length pr]
    unfold dk deK
    rw [List.length_map, List.length_map]
  refine nth_pair ts _ l fun i t e e1 e2 => ?_
  obtain ⟨q, eq, ot⟩ := paired_get pr e1
  unfold deK at e2
  unfold dk at eq
  rw [List.getElem?_map] at e2 eq
  obtain ⟨p, ep, rfl⟩ := Option.map_eq_some_iff.mp e2
  rw [ep] at eq
  obtain rfl : ((Sum.inr p.1 : Key), V.int p.2) = q := Option.some.inj eq
  exact ⟨SqT.of ot, .str _, by simp [NestedKey.depth]⟩
def mr : Str := "more"
theorem mr_new {ns : List Str} (ok : ∀ x ∈ ns, NmS x) : mr ∉ ns := fun h => by
  have z := (ok mr h).2
  have e : mr.cps.toList.length = 4 := by decide +kernel
  omega
theorem deM_nd {ns : List Str} {us : List Int} (l : us.length = ns.length) (nd : ns.Nodup) (no : mr ∉ ns) (v : V) : ((deK ns us ++ [moreE v]).map (·.1)).Nodup := by
  rw [List.map_append, deK_keys l, List.nodup_append]
  refine ⟨List.Pairwise.map NestedKey.text (fun a b h e => h (NestedKey.text.inj e)) nd, by simp, fun a ha b hb e => ?_⟩
  obtain ⟨x, hx, rfl⟩ := List.mem_map.mp ha
  obtain rfl : b = (moreE v).1 := List.mem_singleton.mp (show b ∈ [(moreE v).1] from hb)
  have z : x = mr := NestedKey.text.inj e
  exact no (z ▸ hx)
theorem valE_mem1 {es : List En} (nd : (es.map (·.1)).Nodup) {e : En} (he : e ∈ es) : valE es e.1 = some e.2.2 := by
  obtain ⟨i, hi, ei⟩ := List.getElem_of_mem he
  exact valE_at nd (by rw [List.getElem?_eq_getElem hi, ei])
theorem deM_val {ns : List Str} {us : List Int} (l : us.length = ns.length) (nd : ns.Nodup) (no : mr ∉ ns) (v : V) {x : Str} (hx : x ∈ ns) : valE (deK ns us ++ [moreE v]) (.text x) = some (.int (av ns us x)) := by
  have lt : idx ns x < ns.length := List.idxOf_lt_length_of_mem hx
  have m : ((.text x, .str x, .int (av ns us x)) : En) ∈ deK ns us := by
    unfold deK
    refine List.mem_map.mpr ⟨(x, av ns us x), ?_, rfl⟩
    refine List.mem_of_getElem? (i := idx ns x) (List.getElem?_zip_eq_some.mpr ⟨?_, ?_⟩)
    · rw [List.getElem?_eq_getElem lt]
      exact congrArg some (List.getElem_idxOf lt)
    · unfold av
      rw [List.getD_eq_getElem?_getD, List.getElem?_eq_getElem (by omega)]
      rfl
  exact valE_mem1 (e := (.text x, .str x, .int (av ns us x))) (deM_nd l nd no v) (List.mem_append_left _ m)
section
variable {w : World} {K : PySem.W.Frag} {σ : St} {H : Hp} {Q : VK}
/-- dict(list(row.items()) + [('more', v)]) -/
theorem dict_more {j : Nat} {a : Addr} {ns : List Str} {us : List Int} {v : V} (sa : σ[j]? = some (some (.ref a))) (oa : H a = some (.dK (dk ns us))) (l : us.length = ns.length) (nd : ns.Nodup) (no : mr ∉ ns) (sh : ns.length < 1000)
    (fin : ∀ H' g, H g = none → H' g = some (DE w g (deK ns us ++ [moreE v])) → MixE H' (deK ns us ++ [moreE v]) → Same H H' → Q (.ref g) H') :
    tCB (rDictPX w K) (tCons (tOp rCat (LiI.tListItems (tVar j)) (tLst (tCons (tTup (tCons (tC (.str "more")) (tCons (tC v) tNil))) tNil))) tNil) σ H Q := by
  have ld := dk_len l
  refine ⟨_, sa, a, _, rfl, oa, fun H3 q3 ts3 s3 n3 _ _ o3 pr3 => ?_⟩
  have s3 : Same H H3 := s3
  refine ⟨(by show 2 ≤ sizeLine; decide), fun t nt => ⟨(by show 1 ≤ sizeLine; decide), fun p np => ?_⟩⟩
  have st := same_new (o := .tup [.str "more", v]) nt
  have ot : upd H3 t (.tup [.str "more", v]) t = some (.tup [.str "more", v]) := upd_same
  generalize upd H3 t (.tup [.str "more", v]) = H4 at st ot np
  have sp := same_new (o := .lst [.ref t]) np
  have op : upd H4 p (.lst [.ref t]) p = some (.lst [.ref t]) := upd_same
  generalize upd H4 p (.lst [.ref t]) = H5 at sp op
  have k35 := st.trans sp
  have l3 : ts3.length = ns.length := by rw [Paired.length pr3, ld]
  refine ⟨q3, p, _, _, rfl, rfl, k35 _ _ o3, op, (by rw [sizeLine_eq, List.length_map]; show _ + 1 ≤ _; omega), fun p5 np5 => ?_⟩
  have s5 := same_new (o := .lst (ts3.map V.ref ++ [V.ref t])) np5
  have o5 : upd H5 p5 (.lst (ts3.map V.ref ++ [V.ref t])) p5 = some (.lst (ts3.map V.ref ++ [V.ref t])) := upd_same
  generalize upd H5 p5 (.lst (ts3.map V.ref ++ [V.ref t])) = H6 at s5 o5
  have k36 := k35.trans s5
  have pz : putsE [] (deK ns us ++ [moreE v]) = deK ns us ++ [moreE v] := by simpa using putsE_nd (deK ns us ++ [moreE v]) [] (by simpa using deM_nd l nd no v)
  refine ⟨p5, ts3 ++ [t], deK ns us ++ [moreE v], rfl, SqL.of (by rw [List.map_append]; exact o5), paired_snoc ⟨SqT.of ((sp.trans s5) _ _ ot), more_k _, more_d _⟩ (Paired.mapP (deK_px (K := K) pr3) fun b x h => h.same k36), fun pd npd m6 => ?_⟩
  rw [pz] at m6 ⊢
  have s7 := same_new (o := DE w pd (deK ns us ++ [moreE v])) npd
  exact fin _ pd ((s3.trans k36).free npd) upd_same m6 ((s3.trans k36).trans s7)
end
end L2.TB
/-! _law_bent_worlds -/
namespace L2.TB
open PySem PySem.Spec PyProof.Rows MK
inductive WL (w : World) (H : Hp) (ns : List Str) : V → Option (List Int) → Prop
  | row {d : Addr} {us : List Int} (o : H d = some (.dK (dk ns us))) (l : us.length = ns.length) : WL w H ns (.ref d) (some us)
  | more {d : Addr} {es : List En} (o : H d = some (DE w d es)) (ne : es.length ≠ ns.length) : WL w H ns (.ref d) none
  | non : WL w H ns .non none
theorem WL.th {w : World} {H : Hp} {ns : List Str} {v : V} {o : Option (List Int)} (h : WL w H ns v o) (nd : ns.Nodup) : WTh w H ns v o := by
  cases h with
  | row o l => exact .row o (rowD_dk nd l)
  | more o ne => exact .more o ne
  | non => exact .non
theorem WL.same {w : World} {H H' : Hp} {ns : List Str} {v : V} {o : Option (List Int)} (h : WL w H ns v o) (s : Same H H') : WL w H' ns v o := by
  cases h with
  | row o l => exact .row (s _ _ o) l
  | more o ne => exact .more (s _ _ o) ne
  | non => exact .non
/-- what the law looks at as two worlds -/
inductive TwL (w : World) (K : PySem.W.Frag) (H : Hp) (ns : List Str) : V → Option (Option (List Int) × Option (List Int)) → Prop
  | odd {v : V} (a : Atm v) : TwL w K H ns v none
  | seq {a : Addr} {xs : List V} (s : SqA K H a xs) (ne : xs.length ≠ 2) (sh : xs.length < 1000) : TwL w K H ns (.ref a) none
  | pair {a : Addr} {y z : V} {o1 o2 : Option (List Int)} (s : SqA K H a [y, z]) (w1 : WL w H ns y o1) (w2 : WL w H ns z o2) : TwL w K H ns (.ref a) (some (o1, o2))
theorem TwL.th {w : World} {K : PySem.W.Frag} {H : Hp} {ns : List Str} {v : V} {o : Option (Option (List Int) × Option (List Int))} (h : TwL w K H ns v o) (nd : ns.Nodup) : ApTh w K H ns v o := by
  cases h with
  | odd a => exact .odd a
  | seq s ne _ => exact .seq s ne
  | pair s w1 w2 => exact .pair s (w1.th nd) (w2.th nd)
theorem TwL.same {w : World} {K : PySem.W.Frag} {H H' : Hp} {ns : List Str} {v : V} {o : Option (Option (List Int) × Option (List Int))} (h : TwL w K H ns v o) (s : Same H H') : TwL w K H' ns v o := by
  cases h with
  | odd a => exact .odd a
  | seq q ne sh => exact .seq (q.same s) ne sh
  | pair q w1 w2 => exact .pair (q.same s) (w1.same s) (w2.same s)
theorem av_map {ns : List Str} {f : Str → Int} {x : Str} (xin : x ∈ ns) : av ns (ns.map f) x = f x := by
  unfold av
  have lt : idx ns x < ns.length := List.idxOf_lt_length_of_mem xin
  rw [List.getD_eq_getElem?_getD, List.getElem?_map, List.getElem?_eq_getElem lt]
  show f ns[idx ns x] = f x
  exact congrArg f (List.getElem_idxOf lt)
theorem gvn_dk (ns known : List Str) (us : List Int) : gvn ns known us = dk known (keyR ns known us) := by
  unfold gvn dk keyR
  induction known with
  | nil => rfl
  | cons x l ih => rw [List.map_cons, List.map_cons, List.zip_cons_cons, List.map_cons, ih]
theorem sqT_unlock {K : PySem.W.Frag} {H : Hp} {b p : Addr} {od : Obj} {u : HO} {kvs : List (Key × V)} {xs : List V} (hb : H b = some (.frz od (.dK kvs))) (h : SqT K H p xs) : SqT K (upd H b u) p xs := by
  rcases h with (h | ⟨o, h⟩) | h
  · exact .inl (.inl (by rw [upd_ne (fun z => by rw [z, hb] at h; cases h)]; exact h))
  · exact .inl (.inr ⟨o, by rw [upd_ne (fun z => by rw [z, hb] at h; cases h)]; exact h⟩)
  · exact .inr h
def spBentW (w : World) (K : PySem.W.Frag) : Sp := fun vs H Q _ => ∃ (l ls r : Addr) (as : List Addr) (ns : List Str) (tbl : List (List Int)) (N : Int), vs = [.ref l, .ref r] ∧ Strm H l ls N ∧ N ≤ 900000 ∧ H r = some (.lst (as.map V.ref)) ∧ r ≠ l ∧ r ≠ ls ∧ RowsAt H l ls ns as tbl ∧ tbl ≠ [] ∧ tbl.length < 900 ∧ ns.Nodup ∧ mr ∉ ns ∧ ns.length < 1000 ∧
  ∀ H' q bs, H q = none → q ≠ l → q ≠ ls → H' q = some (.lst bs) → bs.length < 900 → (∀ b ∈ bs, ∃ o, TwL w K H' ns b o) → Strm H' l ls (N + 2) → But l ls H H' → Q (.ref q) H'
abbrev NBw : List Str := ["stream", "rows", "one", "other", "found", "name"]
theorem scBw : FnScope NBw ["stream", "rows"] (defScope sBentW) := ⟨rfl, rfl, rfl, by decide +kernel, rfl, by decide +kernel, by decide +kernel⟩
section
variable {P : Program} {w : World} {K : PySem.W.Frag} {mg : Str → Option Value} {base : Heap} {f fP : Addr} {fd fdP : FuncData}
theorem ok_bentW (F : Fun K "_law_bent_worlds" "_law_bent_worlds" sBentW f fd) (FP : Fun K "_law_pick" "_law_pick" sPick fP fdP) (gP : mg "_law_pick" = some (.ref fP)) (GP : FnOk P w K mg base CX0 2 fP fdP ["stream", "some"] (spPick K)) (nL : mg "list" = none) (nD : mg "dict" = none) : FnOk P w K mg base CX0 4 f fd ["stream", "rows"] (spBentW w K) := by
  have bP := FP.binds (ps := ["stream", "some"]) fun _ _ _ _ _ _ us hl => match us, hl with | [_, _], _ => rfl
  refine F.ok scBw (fun vs H Q E h => by obtain ⟨l, ls, r, as, ns, tbl, N, e, _⟩ := h; rw [e]; rfl) fun cdv A outer s H vs Q E hr hsp => ?_
  obtain ⟨l, ls, r, as, ns, tbl, N, rfl, hS, hN, orr, rl, rls, R, tne, few, nnd, nmr, nsh, hq⟩ := hsp
  have nd := scBw.nd
  refine ⟨_, pss_cons (ps_par (i := 2) (j := 3) rfl nd rfl rfl (by decide) rfl rfl (pa_cons (pe_call GP (hr.mono (by decide)) rfl gP FP.kp bP .nil pass0 (pa_cons (pv 0) (pa_cons (pv 1) pa_nil))) (pa_cons (pe_call GP (hr.mono (by decide)) rfl gP FP.kp bP .nil pass0 (pa_cons (pv 0) (pa_cons (pv 1) pa_nil))) pa_nil)) (by rfl))
    (pss_cons (ps_set (i := 4) nd rfl (Or.inl rfl) (pe_lst (pa_cons (pe_tup (pa_cons (pv 2) (pa_cons (pv 3) pa_nil))) (pa_cons (pe_lst (pa_cons (pv 3) (pa_cons (pv 2) pa_nil))) (pa_cons (pe_tup (pa_cons (pv 2) (pa_cons (pv 2) pa_nil))) (pa_cons pe_non (pa_cons pe_int (pa_cons (pe_lst (pa_cons (pv 2) pa_nil)) (pa_cons (pe_tup (pa_cons (pv 2) (pa_cons (pv 3) (pa_cons (pv 2) pa_nil)))) (pa_cons (pe_lst (pa_cons (pv 2) (pa_cons pe_non pa_nil))) (pa_cons pe_str pa_nil)))))))))))
    (pss_one (ps_ret (pe_op op_cat (pv 4) (pe_lst (pa_cons (pe_tup (pa_cons (pe_callTy (call_dictPXw (w := w) rfl rfl (hu_in2 hr)) rfl nD boot_dict' (pa_cons (pe_op op_cat (LiI.pe_listItems rfl (pv 2) rfl nL boot_list') (pe_lst (pa_cons (pe_tup (pa_cons pe_str (pa_cons pe_int pa_nil))) pa_nil))) pa_nil)) (pa_cons (pv 3) pa_nil)))
      (pa_cons (pe_tup (pa_cons (pv 2) (pa_cons (pe_callTy (call_dictP rfl) rfl nD boot_dict' (pa_cons (pe_lock (pe_lc (own := [("name", 5)]) (tt := tYes) rfl nd (pi_keys (pv 3)) (blkOk_by (N := NBw) (sc := defScope sBentW) (by decide +kernel)) (fun _ _ _ _ _ => pg_name (i := 5) nd rfl (Or.inl rfl)) (fun _ _ _ _ _ => pts_nil)
        (fun _ _ _ _ _ => pe_tup (pa_cons (pv 5) (pa_cons pe_int pa_nil))))) pa_nil)) pa_nil))) pa_nil))))))), ?_⟩
  have las : as.length = tbl.length := Paired.length R
  have pos : 0 < tbl.length := List.length_pos_iff.mpr tne
  refine ⟨_, rfl, _, rfl, l, ls, r, _, N, rfl, hS, by omega, rl, rls, orr, by rw [List.length_map]; omega, by rw [List.length_map]; omega, fun H1 x1 m1 S1 B1 => ?_⟩
  refine ⟨_, rfl, _, rfl, l, ls, r, _, N + 1, rfl, S1, by omega, rl, rls, B1 _ _ rl rls orr, by rw [List.length_map]; omega, by rw [List.length_map]; omega, fun H2 x2 m2 S2 B2 => ?_⟩
  have B02 := B1.trans B2
  obtain ⟨a, ma, rfl⟩ := List.mem_map.mp m1
  obtain ⟨b, mb, rfl⟩ := List.mem_map.mp m2
  have R2 := R.but B02
  obtain ⟨ia, hia, ea⟩ := List.getElem_of_mem ma
  obtain ⟨u, eu, oa, lu, al, als⟩ := paired_get R2 (show as[ia]? = some a by rw [List.getElem?_eq_getElem hia, ea])
  obtain ⟨ib, hib, eb⟩ := List.getElem_of_mem mb
  obtain ⟨v, ev, ob, lv, bl, bls⟩ := paired_get R2 (show as[ib]? = some b by rw [List.getElem?_eq_getElem hib, eb])
  refine ⟨_, _, rfl, ?_⟩
  refine ⟨_, rfl, _, rfl, (by show 2 ≤ sizeLine; decide), fun t1 n1 => ?_⟩
  have s1 := same_new (o := .tup [.ref a, .ref b]) n1
  have o1 := upd_same (H := H2) (a := t1) (o := .tup [.ref a, .ref b])
  generalize upd H2 t1 (.tup [.ref a, .ref b]) = G1 at s1 o1
  refine ⟨_, rfl, _, rfl, (by show 2 ≤ sizeLine; decide), fun t2 n2 => ?_⟩
  have s2 := s1.trans (same_new (o := .lst [.ref b, .ref a]) n2)
  have k2 := same_new (o := .lst [.ref b, .ref a]) n2
  have o2 := upd_same (H := G1) (a := t2) (o := .lst [.ref b, .ref a])
  generalize upd G1 t2 (.lst [.ref b, .ref a]) = G2 at s2 k2 o2
  refine ⟨_, rfl, _, rfl, (by show 2 ≤ sizeLine; decide), fun t3 n3 => ?_⟩
  have s3 := s2.trans (same_new (o := .tup [.ref a, .ref a]) n3)
  have k3 := same_new (o := .tup [.ref a, .ref a]) n3
  have o3 := upd_same (H := G2) (a := t3) (o := .tup [.ref a, .ref a])
  generalize upd G2 t3 (.tup [.ref a, .ref a]) = G3 at s3 k3 o3
  refine ⟨_, rfl, (by show 1 ≤ sizeLine; decide), fun t4 n4 => ?_⟩
  have s4 := s3.trans (same_new (o := .lst [.ref a]) n4)
  have k4 := same_new (o := .lst [.ref a]) n4
  have o4 := upd_same (H := G3) (a := t4) (o := .lst [.ref a])
  generalize upd G3 t4 (.lst [.ref a]) = G4 at s4 k4 o4
  refine ⟨_, rfl, _, rfl, _, rfl, (by show 3 ≤ sizeLine; decide), fun t5 n5 => ?_⟩
  have s5 := s4.trans (same_new (o := .tup [.ref a, .ref b, .ref a]) n5)
  have k5 := same_new (o := .tup [.ref a, .ref b, .ref a]) n5
  have o5 := upd_same (H := G4) (a := t5) (o := .tup [.ref a, .ref b, .ref a])
  generalize upd G4 t5 (.tup [.ref a, .ref b, .ref a]) = G5 at s5 k5 o5
  refine ⟨_, rfl, (by show 2 ≤ sizeLine; decide), fun t6 n6 => ?_⟩
  have s6 := s5.trans (same_new (o := .lst [.ref a, .non]) n6)
  have k6 := same_new (o := .lst [.ref a, .non]) n6
  have o6 := upd_same (H := G5) (a := t6) (o := .lst [.ref a, .non])
  generalize upd G5 t6 (.lst [.ref a, .non]) = G6 at s6 k6 o6
  refine ⟨(by show 9 ≤ sizeLine; decide), fun q nq => ?_⟩
  have s7 := s6.trans (same_new (o := .lst [.ref t1, .ref t2, .ref t3, .non, .int 5, .ref t4, .ref t5, .ref t6, .str "ab"]) nq)
  have k7 := same_new (o := .lst [.ref t1, .ref t2, .ref t3, .non, .int 5, .ref t4, .ref t5, .ref t6, .str "ab"]) nq
  have o7 := upd_same (H := G6) (a := q) (o := .lst [.ref t1, .ref t2, .ref t3, .non, .int 5, .ref t4, .ref t5, .ref t6, .str "ab"])
  generalize upd G6 q (.lst [.ref t1, .ref t2, .ref t3, .non, .int 5, .ref t4, .ref t5, .ref t6, .str "ab"]) = G7 at s7 k7 o7
  refine ⟨_, rfl, ?_⟩
  refine dict_more rfl (s7 _ _ oa) lu nnd nmr nsh fun G8 g ng og mg k8 => ?_
  refine ⟨_, rfl, (by show 2 ≤ sizeLine; decide), fun t8 n8 => ?_⟩
  have k9 := same_new (o := .tup [.ref g, .ref b]) n8
  have o8 := upd_same (H := G8) (a := t8) (o := .tup [.ref g, .ref b])
  generalize upd G8 t8 (.tup [.ref g, .ref b]) = G9 at k9 o8
  have s9 := (s7.trans k8).trans k9
  have ob9 := s9 _ _ ob
  have ldk := dk_len lv
  refine ⟨_, rfl, b, _, ob9, trivial, fun od => ⟨_, rfl, b, od, rfl, .inl ⟨_, upd_same, ?_⟩⟩⟩
  have l77 : (ns.map fun _ => (77 : Int)).length = ns.length := List.length_map ..
  refine given_lc (K := K) ns ns (ns.map fun _ => 77) nsh (fun i H' s lt => ⟨s _ _ upd_same, by rw [ldk]; exact lt⟩) (fun H' s => ⟨s _ _ upd_same, by rw [ldk]; exact Nat.le_refl _⟩) ?_ ?_
  · rintro i y x H3 H4 Cn Nn ex s3' ⟨rfl, k, w', ek, rfl⟩ yes
    obtain ⟨z, n, rfl, rfl, ez, _⟩ := dk_at ek nnd lv.symm
    rw [ex] at ez
    obtain rfl := Option.some.inj ez
    refine ⟨rfl, _, rfl, (by show 2 ≤ sizeLine; decide), fun t nt => ?_⟩
    refine yes t _ ?_ (same_new nt)
    rw [av_map (f := fun _ => 77) (List.mem_of_getElem? ex)]
    exact upd_same
  · intro H3 D ps nD oD pr s3'
    obtain ⟨b1, s34⟩ := lock_off ob9 s3'
    have Db : D ≠ b := fun z => by rw [z, upd_same] at nD; cases nD
    have e77 : gvn ns ns (ns.map fun _ => 77) = dk ns (ns.map fun _ => 77) := by
      rw [gvn_dk]
      unfold keyR
      rw [av_all nnd l77]
    refine ⟨b1, D, ps, _, rfl, SqL.of (by rw [upd_ne Db]; exact oD), Paired.mapP pr fun p kv h => ?_, fun p77 np77 => ?_⟩
    · exact sqT_unlock b1 h
    rw [e77, merge_nd (dk_nd l77.symm nnd)]
    have kp := same_new (o := .dK (dk ns (ns.map fun _ => 77))) np77
    have op77 := upd_same (H := upd H3 b (.dK (dk ns v))) (a := p77) (o := .dK (dk ns (ns.map fun _ => 77)))
    generalize upd (upd H3 b (.dK (dk ns v))) p77 (.dK (dk ns (ns.map fun _ => 77))) = H5 at kp op77
    refine ⟨(by show 2 ≤ sizeLine; decide), fun t9 n9 => ?_⟩
    have k10 := same_new (o := .tup [.ref a, .ref p77]) n9
    have o9 := upd_same (H := H5) (a := t9) (o := .tup [.ref a, .ref p77])
    generalize upd H5 t9 (.tup [.ref a, .ref p77]) = H6 at k10 o9
    refine ⟨(by show 2 ≤ sizeLine; decide), fun p2 np2 => ?_⟩
    have k11 := same_new (o := .lst [.ref t8, .ref t9]) np2
    have o11 := upd_same (H := H6) (a := p2) (o := .lst [.ref t8, .ref t9])
    generalize upd H6 p2 (.lst [.ref t8, .ref t9]) = H7 at k11 o11
    have k911 := s34.trans (kp.trans (k10.trans k11))
    have k711 := (k8.trans k9).trans k911
    refine ⟨q, p2, _, _, rfl, rfl, k711 _ _ o7, o11, (by show 9 + 2 ≤ sizeLine; decide), fun qq nqq => ?_⟩
    have kq := same_new (o := .lst ([.ref t1, .ref t2, .ref t3, .non, .int 5, .ref t4, .ref t5, .ref t6, .str "ab"] ++ [.ref t8, .ref t9])) nqq
    have fin711 := k711.trans kq
    have fin911 := k911.trans kq
    have s2q := s7.trans fin711
    have aq := (S2.same (s7.trans k711)).apart (Same.refl _) nqq
    have nqH : H qq = none := by
      cases e : H qq with
      | none => rfl
      | some o =>
        have z := (B02.trans (But.of (s7.trans k711))) _ _ aq.1 aq.2 e
        rw [nqq] at z; cases z
    have wa : WL w (upd H7 qq (.lst ([.ref t1, .ref t2, .ref t3, .non, .int 5, .ref t4, .ref t5, .ref t6, .str "ab"] ++ [.ref t8, .ref t9]))) ns (.ref a) (some u) := .row (s2q _ _ oa) lu
    have wb : WL w (upd H7 qq (.lst ([.ref t1, .ref t2, .ref t3, .non, .int 5, .ref t4, .ref t5, .ref t6, .str "ab"] ++ [.ref t8, .ref t9]))) ns (.ref b) (some v) := .row (s2q _ _ ob) lv
    refine hq _ qq _ nqH aq.1 aq.2 upd_same (by show 11 < 900; decide) (fun y hy => ?_) (S2.same s2q |>.mono (by omega)) (B02.trans (But.of s2q))
    have w67 : Same G6 (upd H7 qq (.lst ([.ref t1, .ref t2, .ref t3, .non, .int 5, .ref t4, .ref t5, .ref t6, .str "ab"] ++ [.ref t8, .ref t9]))) := k7.trans fin711
    have w57 := k6.trans w67
    have w47 := k5.trans w57
    have w37 := k4.trans w47
    have w27 := k3.trans w37
    have w17 := k2.trans w27
    simp only [List.mem_append, List.mem_cons, List.not_mem_nil, or_false] at hy
    rcases hy with (rfl | rfl | rfl | rfl | rfl | rfl | rfl | rfl | rfl) | (rfl | rfl)
    · exact ⟨_, .pair (.inr (w17 _ _ o1)) wa wb⟩
    · exact ⟨_, .pair (.inl (w27 _ _ o2)) wb wa⟩
    · exact ⟨_, .pair (.inr (w37 _ _ o3)) wa wa⟩
    · exact ⟨_, .odd .non⟩
    · exact ⟨_, .odd (.int _)⟩
    · exact ⟨_, .seq (.inl (w47 _ _ o4)) (by show 1 ≠ 2; decide) (by show 1 < 1000; decide)⟩
    · exact ⟨_, .seq (.inr (w57 _ _ o5)) (by show 3 ≠ 2; decide) (by show 3 < 1000; decide)⟩
    · exact ⟨_, .pair (.inl (w67 _ _ o6)) wa .non⟩
    · exact ⟨_, .odd (.str _)⟩
    · exact ⟨_, .pair (.inr (fin911 _ _ o8)) (.more ((k9.trans fin911) _ _ og) (by rw [List.length_append, deK_len lu]; show _ + 1 ≠ _; omega)) wb⟩
    · exact ⟨_, .pair (.inr ((k11.trans kq) _ _ o9)) wa (.row ((k10.trans (k11.trans kq)) _ _ op77) l77)⟩
end
end L2.TB
/-! _law_are_apart -/
namespace L2.TB
open PySem PySem.Spec PyProof.Rows MK
theorem pg_or {X : Cx} {e : Expr} {t1 t2 : TG} (h1 : PG X e t1) (h2 : PG X e t2) : PG X e (fun v σ H Q => t1 v σ H Q ∨ t2 v σ H Q) := ⟨fun pins s σ H v u Q I r h => h.elim (h1.run pins s σ H v u Q I r) (h2.run pins s σ H v u Q I r)⟩
theorem lc_seqI {K : PySem.W.Frag} {a : Addr} {xs : List V} {o : HO} {g : TG} {tt : TT} {te : TE} {vs : List Nat} {σ : St} {H1 : Hp} {Q : Addr → Hp → Prop} (ko : o = .lst xs ∨ o = .tup xs) (ho : H1 a = some o) (ys : List V) (ly : ys.length = xs.length) (short : xs.length < 1000000)
    (turn : ∀ (i : Nat) (x y : V) (H : Hp) (C : V → Hp → Prop) (N : Hp → Prop), xs[i]? = some x → ys[i]? = some y → Same H1 H → (∀ H4, Same H H4 → C y H4) → g x (wipe σ vs) H fun σ2 H2 => wipe σ2 vs = wipe σ vs ∧ tt σ2 H2 fun b H3 => if b = true then te σ2 H3 C else N H3)
    (fin : ∀ H D, H1 D = none → H D = some (.lst ys) → Same H1 H → Q D H) :
    ∃ b ys, V.ref a = V.ref b ∧ ((SqL K H1 b ys ∧ LcW (Itl K b) g tt te vs σ H1 Q) ∨ (SqT K H1 b ys ∧ LcW (Itt K b) g tt te vs σ H1 Q)) := by
  rcases ko with rfl | rfl
  · refine ⟨a, xs, rfl, .inl ⟨SqL.of ho, lc_gen ys (by omega) (fun i H' k lt => ⟨_, _, SqL.of (k _ _ ho), List.getElem?_eq_getElem (by omega)⟩) (fun H' k => ⟨_, SqL.of (k _ _ ho), by omega⟩) ?_ fin⟩⟩
    rintro i x y H H' C N ey s ⟨rfl, ex⟩ yes
    exact turn i x y _ C N (ex _ (SqL.of (s _ _ ho))) ey s yes
  · refine ⟨a, xs, rfl, .inr ⟨SqT.of ho, lc_gen ys (by omega) (fun i H' k lt => ⟨_, _, SqT.of (k _ _ ho), List.getElem?_eq_getElem (by omega)⟩) (fun H' k => ⟨_, SqT.of (k _ _ ho), by omega⟩) ?_ fin⟩⟩
    rintro i x y H H' C N ey s ⟨rfl, ex⟩ yes
    exact turn i x y _ C N (ex _ (SqT.of (s _ _ ho))) ey s yes
theorem apart_no {ns known : List Str} {x : Str} {tbl : List (List Int)} {o1 o2 : Option (List Int)} (h : (worldB tbl o1 && worldB tbl o2) = false) : apartB ns known x tbl (some (o1, o2)) = false := by
  cases o1 with
  | none => rfl
  | some u =>
    cases o2 with
    | none => rfl
    | some v =>
      have h : (decide (u ∈ tbl) && decide (v ∈ tbl)) = false := h
      show (decide (u ∈ tbl) && (decide (v ∈ tbl) && _)) = false
      rw [← Bool.and_assoc, h, Bool.false_and]
theorem apart_yes {ns known : List Str} {x : Str} {tbl : List (List Int)} {o1 o2 : Option (List Int)} (h : (worldB tbl o1 && worldB tbl o2) = true) : ∃ u v, o1 = some u ∧ o2 = some v ∧ apartB ns known x tbl (some (o1, o2)) = (decide (keyR ns known u = keyR ns known v) && !decide (av ns u x = av ns v x)) := by
  cases o1 with
  | none => cases h
  | some u =>
    cases o2 with
    | none => rw [Bool.and_comm] at h; cases h
    | some v =>
      have h : (decide (u ∈ tbl) && decide (v ∈ tbl)) = true := h
      refine ⟨u, v, rfl, rfl, ?_⟩
      show (decide (u ∈ tbl) && (decide (v ∈ tbl) && _)) = _
      rw [← Bool.and_assoc, h, Bool.true_and]
def spLawAp (w : World) (K : PySem.W.Frag) : Sp := fun vs H Q _ => ∃ (r c : Addr) (as : List Addr) (ns known : List Str) (x : Str) (tbl : List (List Int)) (v : V) (o : Option (Option (List Int) × Option (List Int))), vs = [.ref r, .ref c, .str x, v] ∧ H r = some (.lst (as.map V.ref)) ∧ DRows H ns as tbl ∧ SqA K H c (known.map V.str) ∧ (∀ y ∈ known, y ∈ ns) ∧ known.length < 1000 ∧ ns.Nodup ∧ x ∈ ns ∧ TwL w K H ns v o ∧
  ∀ H', Same H H' → Q (.bl (apartB ns known x tbl o)) H'
abbrev NLa : List Str := ["rows", "known", "asked", "thing", "one", "other", "world"]
theorem scLawAp : FnScope NLa ["rows", "known", "asked", "thing"] (defScope sLawAp) := ⟨rfl, rfl, rfl, by decide +kernel, rfl, by decide +kernel, by decide +kernel⟩
section
variable {P : Program} {w : World} {K : PySem.W.Frag} {mg : Str → Option Value} {base : Heap} {f fK : Addr} {fd fdK : FuncData}
theorem ok_lawAp (F : Fun K "_law_are_apart" "_law_are_apart" sLawAp f fd) (FK : Fun K "_law_t_key" "_law_t_key" sKey fK fdK) (gK : mg "_law_t_key" = some (.ref fK)) (nI : mg "isinstance" = none) (nL : mg "list" = none) (nT : mg "tuple" = none) (nN : mg "len" = none) (nA : mg "all" = none) : FnOk P w K mg base CX0 3 f fd ["rows", "known", "asked", "thing"] (spLawAp w K) := by
  have G : FnOk P w K mg base CX0 1 fK fdK ["row", "known"] (spKey K) := ok_key FK nT
  have b := FK.binds (ps := ["row", "known"]) fun _ _ _ _ _ _ us hl => match us, hl with | [_, _], _ => rfl
  refine F.ok scLawAp (fun vs H Q E h => by obtain ⟨r, c, as, ns, known, x, tbl, v, o, e, _⟩ := h; rw [e]; rfl) fun cdv A outer s H vs Q E hr hsp => ?_
  obtain ⟨r, c, as, ns, known, x, tbl, v, o, rfl, orr, D, hc, sub, sh, nnd, xin, th, hq⟩ := hsp
  have nd := scLawAp.nd
  have hu := hu_of hr
  have hu64 := hr.units
  refine ⟨_, pss_cons (ps_if (PW.pt (pw_or (pt_not (pt_val (pe_callB (r := rIsiT K) call_isiT rfl nI boot_isi (pa_cons (pv 3) (pa_cons (pe_tup (pa_cons (pe_bltn (v := .ty "list") rfl nL boot_list' rfl) (pa_cons (pe_bltn (v := .ty "tuple") rfl nT boot_tuple' rfl) pa_nil))) pa_nil)))))
      (pw_or (pt_cmpR op_ne (pe_callB call_len_seq rfl nN boot_len (pa_cons (pv 3) pa_nil)) pe_int (nomark _))
      (pw_or1 (pt_not (pt_val (pe_callB (cr_all rfl) rfl nA boot_all' (pa_cons (pe_lc (own := [("world", 6)]) (tt := tYes) rfl nd (pi_seq (pv 3)) (blkOk_by (N := NLa) (sc := defScope sLawAp) (by decide +kernel)) (fun _ _ _ _ _ => pg_name (i := 6) nd rfl (Or.inl rfl)) (fun _ _ _ _ _ => pts_nil)
        (fun _ _ _ _ _ => pe_cmpR (r := rInRows w) (op_inRows rfl hu64) (pv 6) (pv 0) rfl)) pa_nil)))))))) (pss_one (ps_ret pe_bl)) pss_nil)
    (pss_cons (ps_asg (pv 3) (pg_or (pg_tup rfl (pgs_cons (pg_name (i := 4) nd rfl (Or.inl rfl)) (pgs_cons (pg_name (i := 5) nd rfl (Or.inl rfl)) pgs_nil))) (pg_unl rfl (pgs_cons (pg_name (i := 4) nd rfl (Or.inl rfl)) (pgs_cons (pg_name (i := 5) nd rfl (Or.inl rfl)) pgs_nil)))))
    (pss_one (ps_ret (pe_and (pe_cmpR (op_eqD hu64) (pe_call G (hr.mono (by decide)) rfl gK FK.kp b .nil pass0 (pa_cons (pv 4) (pa_cons (pv 1) pa_nil))) (pe_call G (hr.mono (by decide)) rfl gK FK.kp b .nil pass0 (pa_cons (pv 5) (pa_cons (pv 1) pa_nil))) (nomark _))
      (pe_one (pe_cmpR op_ne (pe_dget hu (pv 4) (pv 2) (fun _ _ => rfl)) (pe_dget hu (pv 5) (pv 2) (fun _ _ => rfl)) (nomark _))))))), ?_⟩
  refine ⟨_, rfl, (by show 2 ≤ sizeLine; decide), fun t nt => ?_⟩
  have st := same_new (o := .tup [.ty "list", .ty "tuple"]) nt
  have ot := upd_same (H := H) (a := t) (o := .tup [.ty "list", .ty "tuple"])
  generalize upd H t (.tup [.ty "list", .ty "tuple"]) = H1 at st ot
  cases th with
  | odd a =>
    obtain ⟨ty, h1, h2, h3, _⟩ := a.ty
    exact ⟨_, _, _, _, _, false, rfl, ot, .cons (.ty _) (.cons (.ty _) .nil), h1 _ _, kit_none2 h2 h3, _, rfl, iteT (hq H1 st)⟩
  | @seq a xs hs ne shx =>
    have hs1 := hs.same st
    have next : ∃ b_1, V.bl true = V.bl b_1 ∧ True := ⟨_, rfl, trivial⟩
    have z := hq H1 st
    have go : ∀ (R : Prop), (∃ (tt : Value), TyX K H1 (.ref a) tt ∧ PySem.W.kitAny K tt [.type "list", .type "tuple"] = some true) := fun _ => by
      rcases hs1 with e | e
      · exact ⟨_, .base (.lst e), kit_two_l⟩
      · exact ⟨_, .base (.tup e), kit_two_t⟩
    obtain ⟨tt, y1, y2⟩ := go True
    refine ⟨_, _, _, _, _, true, rfl, ot, .cons (.ty _) (.cons (.ty _) .nil), y1, y2, _, rfl, iteF ⟨_, rfl, a, xs, rfl, hs1.seq, rfl, _, rfl, ?_⟩⟩
    rw [dec_int2, decide_eq_false (by omega : ¬ ((xs.length : Nat) : Int) = 2)]
    exact iteT z
  | @pair a y z o1 o2 hs w1 w2 =>
    have hs1 := hs.same st
    have go : ∃ (tt : Value), TyX K H1 (.ref a) tt ∧ PySem.W.kitAny K tt [.type "list", .type "tuple"] = some true := by
      rcases hs1 with e | e
      · exact ⟨_, .base (.lst e), kit_two_l⟩
      · exact ⟨_, .base (.tup e), kit_two_t⟩
    obtain ⟨tt, y1, y2⟩ := go
    refine ⟨_, _, _, _, _, true, rfl, ot, .cons (.ty _) (.cons (.ty _) .nil), y1, y2, _, rfl, iteF ⟨_, rfl, a, [y, z], rfl, hs1.seq, rfl, _, rfl, iteF ?_⟩⟩
    obtain ⟨ob, hob, ko⟩ := hs1.ho
    have D1 := D.same st
    have wl : ∀ (j : Nat) (v : V), [y, z][j]? = some v → ∃ o, WL w H1 ns v o ∧ [worldB tbl o1, worldB tbl o2][j]? = some (worldB tbl o) := fun j v e => by
      match j, e with
      | 0, e => obtain rfl := Option.some.inj e; exact ⟨o1, w1.same st, rfl⟩
      | 1, e => obtain rfl := Option.some.inj e; exact ⟨o2, w2.same st, rfl⟩
      | j + 2, e => cases e
    refine ⟨_, rfl, lc_seqI ko hob [.bl (worldB tbl o1), .bl (worldB tbl o2)] rfl (by show 2 < 1000000; decide) ?_ ?_⟩
    · rintro j v b' H2 Cn Nn ev eb s2 yes
      obtain ⟨o, wo, eo⟩ := wl j v ev
      have eb' : b' = V.bl (worldB tbl o) := by
        have z : ([V.bl (worldB tbl o1), V.bl (worldB tbl o2)])[j]? = (([worldB tbl o1, worldB tbl o2])[j]?).map V.bl := by rw [← List.getElem?_map]; rfl
        rw [z, eo] at eb
        exact (Option.some.inj eb).symm
      have wo2 := wo.same s2
      have D2 := D1.same s2
      have orr2 := s2 _ _ (st _ _ orr)
      have yes := yes H2 (Same.refl _)
      rw [eb'] at yes
      refine ⟨rfl, _, rfl, _, rfl, r, as, ns, tbl, rfl, orr2, D2, nnd, ?_⟩
      cases wo2 with
      | row od l => exact .inl ⟨_, _, rfl, od, l, yes⟩
      | more od ne => exact .inr (.inl ⟨_, _, rfl, od, ne, yes⟩)
      | non => exact .inr (.inr ⟨rfl, yes⟩)
    · intro H2 Dl nDl oDl s2
      refine ⟨Dl, [worldB tbl o1, worldB tbl o2], rfl, SqL.of oDl, _, rfl, ?_⟩
      have s02 := st.trans s2
      have eall : ([worldB tbl o1, worldB tbl o2].all id) = (worldB tbl o1 && worldB tbl o2) := by simp
      rw [eall]
      cases hb : (worldB tbl o1 && worldB tbl o2) with
      | false =>
        have z := hq H2 s02
        rw [apart_no hb] at z
        exact iteT z
      | true =>
        obtain ⟨u, v, rfl, rfl, ea⟩ := apart_yes (ns := ns) (known := known) (x := x) hb
        rw [ea] at hq
        refine iteF ⟨_, rfl, ?_⟩
        cases w1 with
        | @row d1 _ od1 l1 =>
        cases w2 with
        | @row d2 _ od2 l2 =>
        have p1 := s02 _ _ od1
        have p2 := s02 _ _ od2
        rcases hs1 with e | e
        · refine .inr ⟨a, _, rfl, SqL.of (s2 _ _ e), rfl, _, _, rfl, _, _, rfl, rfl, ?_⟩
          refine ⟨_, rfl, _, rfl, d1, c, ns, known, u, rfl, .inl p1, l1, nnd, hc.same s02, sub, sh, fun H3 t3 n3 o3 s3 => ?_⟩
          refine ⟨_, rfl, _, rfl, d2, c, ns, known, v, rfl, .inl (s3 _ _ p2), l2, nnd, hc.same (s02.trans s3), sub, sh, fun H4 t4 n4 o4 s4 => ?_⟩
          refine ⟨_, _, .tup (SqT.of (s4 _ _ o3)) (dp_ints _), .tup (SqT.of o4) (dp_ints _), tup_shaped _, tup_shaped _, _, rfl, ?_⟩
          rw [tup_eqv]
          have s04 := s02.trans (s3.trans s4)
          have s24 := s3.trans s4
          have zq := hq H4 s04
          cases ek : decide (keyR ns known u = keyR ns known v) with
          | false =>
            rw [ek, Bool.false_and] at zq
            exact iteF zq
          | true =>
            rw [ek, Bool.true_and] at zq
            refine iteT ⟨_, rfl, _, rfl, d1, _, rfl, dk_av nnd l1 xin ▸ dget_r (k := Sum.inr x) (.inl (s24 _ _ p1)), _, rfl, _, rfl, d2, _, rfl, dk_av nnd l2 xin ▸ dget_r (k := Sum.inr x) (.inl (s24 _ _ p2)), rfl, ?_⟩
            rw [dec_int2]
            exact zq
        · refine .inl ⟨a, _, rfl, SqT.of (s2 _ _ e), rfl, _, _, rfl, _, _, rfl, rfl, ?_⟩
          refine ⟨_, rfl, _, rfl, d1, c, ns, known, u, rfl, .inl p1, l1, nnd, hc.same s02, sub, sh, fun H3 t3 n3 o3 s3 => ?_⟩
          refine ⟨_, rfl, _, rfl, d2, c, ns, known, v, rfl, .inl (s3 _ _ p2), l2, nnd, hc.same (s02.trans s3), sub, sh, fun H4 t4 n4 o4 s4 => ?_⟩
          refine ⟨_, _, .tup (SqT.of (s4 _ _ o3)) (dp_ints _), .tup (SqT.of o4) (dp_ints _), tup_shaped _, tup_shaped _, _, rfl, ?_⟩
          rw [tup_eqv]
          have s04 := s02.trans (s3.trans s4)
          have s24 := s3.trans s4
          have zq := hq H4 s04
          cases ek : decide (keyR ns known u = keyR ns known v) with
          | false =>
            rw [ek, Bool.false_and] at zq
            exact iteF zq
          | true =>
            rw [ek, Bool.true_and] at zq
            refine iteT ⟨_, rfl, _, rfl, d1, _, rfl, dk_av nnd l1 xin ▸ dget_r (k := Sum.inr x) (.inl (s24 _ _ p1)), _, rfl, _, rfl, d2, _, rfl, dk_av nnd l2 xin ▸ dget_r (k := Sum.inr x) (.inl (s24 _ _ p2)), rfl, ?_⟩
            rw [dec_int2]
            exact zq
end
end L2.TB
/-! _law_same of numbers and truths; _law_plan_right -/
namespace L2.TB
open PySem PySem.Spec PyProof.Rows MK
abbrev NSm : List Str := ["found", "due", "x", "y"]
theorem scSame : FnScope NSm ["found", "due"] (defScope sSame) := ⟨rfl, rfl, rfl, by decide +kernel, rfl, by decide +kernel, by decide +kernel⟩
structure Sm (mg : Str → Option Value) : Prop where
  nI : mg "isinstance" = none
  nL : mg "list" = none
  nT : mg "tuple" = none
  nInt : mg "int" = none
  nB : mg "bool" = none
def spSameB : Sp := fun vs H Q _ => ∃ v : V, vs = [v, v] ∧ ((∃ k, v = .int k) ∨ ∃ b, v = .bl b) ∧ ∀ H', Same H H' → Q (.bl true) H'
section
variable {P : Program} {w : World} {K : PySem.W.Frag} {mg : Str → Option Value} {base : Heap} {f : Addr} {fd : FuncData}
theorem ok_sameB (F : Fun K "_law_same" "_law_same" sSame f fd) (M : Sm mg) : FnOk P w K mg base CX0 1 f fd ["found", "due"] spSameB := by
  refine F.ok scSame (fun vs H Q E h => by obtain ⟨x, e, _⟩ := h; rw [e]; rfl) fun cdv A outer s H vs Q E hr hsp => ?_
  obtain ⟨v, rfl, cv, hq⟩ := hsp
  refine ⟨_, pss_cons (ps_if (pt_val (pe_callB (r := rIsiT K) call_isiT rfl M.nI boot_isi (pa_cons (pv 1) (pa_cons (pe_tup (pa_cons (pe_bltn (v := .ty "list") rfl M.nL boot_list' rfl) (pa_cons (pe_bltn (v := .ty "tuple") rfl M.nT boot_tuple' rfl) pa_nil))) pa_nil)))) (pss_cons ps_never (pss_one ps_never)) pss_nil)
    (pss_cons (ps_if (pt_val (pe_callB (r := rIsi K) call_isi rfl M.nI boot_isi (pa_cons (pv 1) (pa_cons (pe_bltn (v := .ty "int") rfl M.nInt boot_int' rfl) pa_nil))))
      (pss_one (ps_ret (pe_and (pe_callB (r := rIsi K) call_isi rfl M.nI boot_isi (pa_cons (pv 0) (pa_cons (pe_bltn (v := .ty "int") rfl M.nInt boot_int' rfl) pa_nil)))
        (pe_and (pe_cmpR op_eq (pe_callB (r := rIsi K) call_isi rfl M.nI boot_isi (pa_cons (pv 0) (pa_cons (pe_bltn (v := .ty "bool") rfl M.nB boot_bool' rfl) pa_nil))) (pe_callB (r := rIsi K) call_isi rfl M.nI boot_isi (pa_cons (pv 1) (pa_cons (pe_bltn (v := .ty "bool") rfl M.nB boot_bool' rfl) pa_nil))) (nomark _))
        (pe_one (pe_cmpR op_eq (pv 0) (pv 1) (nomark _))))))) pss_nil)
    (pss_one ps_never)), ?_⟩
  refine ⟨_, rfl, (by show 2 ≤ sizeLine; decide), fun t nt => ?_⟩
  have st := same_new (o := .tup [.ty "list", .ty "tuple"]) nt
  rcases cv with ⟨k, rfl⟩ | ⟨k, rfl⟩
  · refine ⟨_, _, _, _, _, false, rfl, upd_same, .cons (.ty _) (.cons (.ty _) .nil), .base (.int k), kit_none2 (by decide +kernel) (by decide +kernel), _, rfl, iteF ?_⟩
    refine ⟨_, rfl, _, _, _, _, true, rfl, .ty _, .base (.int k), kit_ty (by decide +kernel), _, rfl, iteT ?_⟩
    refine ⟨_, rfl, _, _, _, _, true, rfl, .ty _, .base (.int k), kit_ty (by decide +kernel), _, rfl, iteT ?_⟩
    refine ⟨_, rfl, _, _, _, _, false, rfl, .ty _, .base (.int k), kit_ty (by decide +kernel), _, rfl, _, _, _, _, false, rfl, .ty _, .base (.int k), kit_ty (by decide +kernel), rfl, _, rfl, iteT ⟨_, rfl, _, rfl, rfl, ?_⟩⟩
    rw [decide_eq_true rfl]
    exact hq _ st
  · refine ⟨_, _, _, _, _, false, rfl, upd_same, .cons (.ty _) (.cons (.ty _) .nil), .base (.bl k), kit_none2 (by decide +kernel) (by decide +kernel), _, rfl, iteF ?_⟩
    refine ⟨_, rfl, _, _, _, _, true, rfl, .ty _, .base (.bl k), kit_ty (by decide +kernel), _, rfl, iteT ?_⟩
    refine ⟨_, rfl, _, _, _, _, true, rfl, .ty _, .base (.bl k), kit_ty (by decide +kernel), _, rfl, iteT ?_⟩
    refine ⟨_, rfl, _, _, _, _, true, rfl, .ty _, .base (.bl k), kit_ty (by decide +kernel), _, rfl, _, _, _, _, true, rfl, .ty _, .base (.bl k), kit_ty (by decide +kernel), rfl, _, rfl, iteT ⟨_, rfl, _, rfl, rfl, ?_⟩⟩
    rw [decide_eq_true rfl]
    exact hq _ st
end
theorem hu_lt {k : Nat} {A : Around} (hr : Room k A) : A.units < cLine := by
  have := hr.un
  omega
/-- two dicts of one plan -/
theorem lots_alike {H : Hp} {es fs : List En} {L : Lot} (nd : (L.map (·.1)).Nodup) (h1 : Ens H es L) (h2 : Ens H fs L) : es.length = fs.length ∧ ∀ e ∈ es, valE fs e.1 = some e.2.2 ∧ flatB e.2.2 = true := by
  refine ⟨(Paired.length h1).trans (Paired.length h2).symm, fun e he => ?_⟩
  obtain ⟨p, _, e1, e2, e3⟩ := goodE_self nd h1 he
  rw [h2.val, e3, e2]
  exact ⟨rfl, rfl⟩
def spPlanR (w : World) (K : PySem.W.Frag) (C : Addr) : Sp := fun vs H Q _ => ∃ (a r b d : Addr) (as : List Addr) (ns known : List Str) (x : Str) (tbl : List (List Int)) (es : List En), vs = [.ref a, .ref r, .ref b, .str x, .ref d] ∧ Asked K H C a b ns known tbl ∧ H r = some (.lst (as.map V.ref)) ∧ DRows H ns as tbl ∧ x ∈ ns ∧ Tells ns tbl known x ∧
  LotAt w H d es (lotOf ns known x tbl) ∧ mr ∉ ns ∧ (∀ u ∈ tbl, ∀ z ∈ u, -1 ≤ z ∧ z ≤ 100) ∧ tbl.length < 900 ∧ ∀ H', Same H H' → Q (.bl true) H'
abbrev NPr : List Str := ["table", "rows", "known", "asked", "plan", "bent", "row", "given"]
theorem scPr : FnScope NPr ["table", "rows", "known", "asked", "plan"] (defScope sPlanR) := ⟨rfl, rfl, rfl, by decide +kernel, rfl, by decide +kernel, by decide +kernel⟩
theorem av_mem {ns : List Str} {u : List Int} {x : Str} (hx : x ∈ ns) (l : u.length = ns.length) : av ns u x ∈ u := by
  have lt : idx ns x < ns.length := List.idxOf_lt_length_of_mem hx
  unfold av
  rw [List.getD_eq_getElem?_getD, List.getElem?_eq_getElem (by omega)]
  exact List.getElem_mem _
theorem small_log {z : Int} (h1 : -1 ≤ z) (h2 : z ≤ 100) : z.natAbs.log2 < 1920 := by
  have l : z.natAbs ≤ 100 := by omega
  have a : z.natAbs.log2 ≤ z.natAbs := Nat.log2_le_self _
  omega
section
variable {P : Program} {w : World} {K : PySem.W.Frag} {mg : Str → Option Value} {base : Heap} {f C fL fB fI fF fS : Addr} {fd fdL fdB fdI fdF fdS : FuncData}
theorem ok_planR (F : Fun K "_law_plan_right" "_law_plan_right" sPlanR f fd) (T : TabC K C) (FL : Fun K "_law_lot" "_law_lot" sLot fL fdL) (gL : mg "_law_lot" = some (.ref fL)) (GL : FnOk P w K mg base CX0 2 fL fdL ["rows", "known", "asked"] (spLot w K))
    (FB : Fun K "_law_bent_plans" "_law_bent_plans" sBentP fB fdB) (gB : mg "_law_bent_plans" = some (.ref fB)) (GB : FnOk P w K mg base CX0 4 fB fdB ["plan"] (spBentP w))
    (FI : Fun K "is_plan" "Table.is_plan" sIsPlan fI fdI) (mI : Meth K C "is_plan" fI) (GI : FnOk P w K mg base CX0 5 fI fdI ["self", "known", "asked", "thing"] (spIsPlan w K C))
    (FF : Fun K "found" "Table.found" sFound fF fdF) (mF : Meth K C "found" fF) (GF : FnOk P w K mg base CX0 6 fF fdF ["self", "known", "asked", "plan", "answers"] (spFound w K C))
    (FS : Fun K "_law_same" "_law_same" sSame fS fdS) (gS : mg "_law_same" = some (.ref fS)) (M : Sm mg) (nL : mg "list" = none) (nD : mg "dict" = none) : FnOk P w K mg base CX0 7 f fd ["table", "rows", "known", "asked", "plan"] (spPlanR w K C) := by
  have bL := FL.binds (ps := ["rows", "known", "asked"]) fun _ _ _ _ _ _ us hl => match us, hl with | [_, _, _], _ => rfl
  have bB := FB.binds (ps := ["plan"]) fun _ _ _ _ _ _ us hl => match us, hl with | [_], _ => rfl
  have bI := FI.binds (ps := ["self", "known", "asked", "thing"]) fun _ _ _ _ _ _ us hl => match us, hl with | [_, _, _, _], _ => rfl
  have bF := FF.binds (ps := ["self", "known", "asked", "plan", "answers"]) fun _ _ _ _ _ _ us hl => match us, hl with | [_, _, _, _, _], _ => rfl
  have bS := FS.binds (ps := ["found", "due"]) fun _ _ _ _ _ _ us hl => match us, hl with | [_, _], _ => rfl
  have GS : FnOk P w K mg base CX0 1 fS fdS ["found", "due"] spSameB := ok_sameB FS M
  refine F.ok scPr (fun vs H Q E h => by obtain ⟨a, r, b, d, as, ns, known, x, tbl, es, e, _⟩ := h; rw [e]; rfl) fun cdv A outer s H vs Q E hr hsp => ?_
  obtain ⟨a, r, b, d, as, ns, known, x, tbl, es, rfl, ask, orr, D, xin, tl, LA, nmr, bd, few, hq⟩ := hsp
  have nd := scPr.nd
  have hu := hu_of hr
  refine ⟨_, pss_cons (ps_if (PW.pt (pw_or (pt_cmpR (r := rEqX w true) (op_neX rfl (hu_in hr) (hu_lt hr)) (pv 4) (pe_call GL (hr.mono (by decide)) rfl gL FL.kp bL .nil pass0 (pa_cons (pv 1) (pa_cons (pv 2) (pa_cons (pv 3) pa_nil)))) (nomark _))
      (pw_or1 (pt_cmpR op_notBl (pe_meth (pv 0) T.cl mI GI (hr.mono (by decide)) bI .nil pass0 (pa_cons (pv 2) (pa_cons (pv 3) (pa_cons (pv 4) pa_nil)))) pe_bl (nomark _))))) (pss_one ps_never) pss_nil)
    (pss_cons (ps_for PassesOwn.never rfl (pi_list (pe_call GB (hr.mono (by decide)) rfl gB FB.kp bB .nil pass0 (pa_cons (pv 4) pa_nil))) (pg_name (i := 5) nd rfl (Or.inl rfl))
      (pss_one (ps_if (pt_cmpR op_notBl (pe_meth (pv 0) T.cl mI GI (hr.mono (by decide)) bI .nil pass0 (pa_cons (pv 2) (pa_cons (pv 3) (pa_cons (pv 5) pa_nil)))) pe_bl (nomark _)) (pss_one ps_never) pss_nil)))
    (pss_cons (ps_for PassesOwn.never rfl (pi_list (pv 1)) (pg_name (i := 6) nd rfl (Or.inl rfl))
      (pss_cons (ps_set (i := 7) nd rfl (Or.inl rfl) (pe_callTy (call_dictPXw (w := w) rfl rfl (hu_in2 hr)) rfl nD boot_dict' (pa_cons (pe_op op_cat (LiI.pe_listItems rfl (pv 6) rfl nL boot_list') (pe_lst (pa_cons (pe_tup (pa_cons pe_str (pa_cons pe_non pa_nil))) pa_nil))) pa_nil)))
      (pss_one (ps_if (pt_not (pt_val (pe_call GS (hr.mono (by decide)) rfl gS FS.kp bS .nil pass0 (pa_cons (pe_meth (pv 0) T.cl mF GF (hr.mono (by decide)) bF .nil pass0 (pa_cons (pv 2) (pa_cons (pv 3) (pa_cons (pv 4) (pa_cons (pv 7) pa_nil))))) (pa_cons (pe_dget hu (pv 6) (pv 3) (fun _ _ => rfl)) pa_nil))))) (pss_one ps_never) pss_nil))))
    (pss_one (ps_ret pe_bl)))), ?_⟩
  obtain ⟨dx, qa, ra, ha, hqa, hra⟩ := ask.t.ex
  have lnd := lot_nd (ns := ns) (known := known) (x := x) tbl
  have llen := lot_len (ns := ns) (known := known) (x := x) tbl
  have las : as.length = tbl.length := Paired.length D
  have lot_b : ∀ p ∈ lotOf ns known x tbl, p.1.length < 1000 ∧ p.2.natAbs.log2 < 1920 := fun p hp => by
    refine ⟨lot_short ask.short p hp, ?_⟩
    obtain ⟨u, hu, _, e2⟩ := lot_from tbl p hp
    have lu := hra.row_len u hu
    have z := bd u hu _ (av_mem xin lu)
    rw [e2]
    exact small_log z.1 z.2
  obtain ⟨pt, pb⟩ := lot_plan (K := K) LA lnd (lot_short ask.short) (by omega)
  refine ⟨_, rfl, _, rfl, _, rfl, _, rfl, r, b, as, ns, known, x, tbl, rfl, ⟨orr, D.rd, ask.k, ask.sub, ask.short, ask.ndn⟩, xin, by omega, fun H1 d2 fs nd2 L2' s1 => ?_⟩
  have L1 := LA.same s1
  obtain ⟨l12, al⟩ := lots_alike lnd L1.e L2'.e
  refine ⟨d, d2, es, fs, rfl, rfl, .inl L1.o, .inl L2'.o, L1.e.mix lnd, L2'.e.mix lnd, l12, al, _, rfl, iteF ?_⟩
  have pt1 : PlTh w K H1 (.ref d) (some (es, List.replicate es.length (true, true))) := (lot_plan (K := K) L1 lnd (lot_short ask.short) (by omega)).1
  refine ⟨_, rfl, a, dx, _, rfl, s1 _ _ ha, rfl, _, rfl, _, rfl, _, rfl, a, b, ns, known, x, tbl, .ref d, _, rfl, ask.same s1, xin, pt1, fun H2 s2 => ?_⟩
  rw [pb, decide_eq_true tl]
  refine ⟨true, true, rfl, rfl, _, rfl, iteF ?_⟩
  have s02 := s1.trans s2
  refine ⟨_, rfl, d, es, _, rfl, LA.same s02, lnd, lot_b, by omega, fun H3 q bs nq oq lb nb s3 => ?_⟩
  have s03 := s02.trans s3
  refine ⟨q, rfl, ⟨_, SqL.of oq⟩, for_list (xs := bs) (fun i σ H' => Same H3 H' ∧ ∃ s5 s6 s7, σ = [some (.ref a), some (.ref r), some (.ref b), some (.str x), some (.ref d), s5, s6, s7]) ⟨Same.refl _, _, _, _, rfl⟩ (fun i σ H' _ h => SqL.of (h.1 _ _ oq)) ?_ ?_⟩
  · rintro i v σ H4 ev ⟨s4, s5', s6', s7', rfl⟩
    obtain ⟨o, po, pf⟩ := ((nb v (List.mem_of_getElem? ev)).same s4).th (K := K)
    have s04 := s03.trans s4
    refine ⟨_, rfl, a, dx, _, rfl, s04 _ _ ha, rfl, _, rfl, _, rfl, _, rfl, a, b, ns, known, x, tbl, v, o, rfl, ask.same s04, xin, po, fun H5 s5 => ?_⟩
    rw [pf, Bool.and_false]
    exact ⟨false, false, rfl, rfl, _, rfl, iteF ⟨s4.trans s5, _, _, _, rfl⟩⟩
  · rintro σ H4 ⟨s4, s5', s6', s7', rfl⟩
    have s04 := s03.trans s4
    refine ⟨_, rfl, r, rfl, ⟨_, SqL.of (s04 _ _ orr)⟩, for_list (xs := as.map V.ref) (fun i σ H' => Same H4 H' ∧ ∃ s5 s6 s7, σ = [some (.ref a), some (.ref r), some (.ref b), some (.str x), some (.ref d), s5, s6, s7]) ⟨Same.refl _, _, _, _, rfl⟩ (fun i σ H' _ h => SqL.of (h.1 _ _ (s04 _ _ orr))) ?_ ?_⟩
    · rintro i v σ H5 ev ⟨s5, s5', s6', s7', rfl⟩
      rw [List.getElem?_map] at ev
      obtain ⟨c, ec, rfl⟩ := Option.map_eq_some_iff.mp ev
      have s05 := s04.trans s5
      obtain ⟨u, eu, oc, lu⟩ := paired_get (D.same s05) ec
      refine dict_more rfl oc lu ask.ndn nmr ask.s1 fun H6 g ng og mg s6 => ?_
      have s06 := s05.trans s6
      refine ⟨_, rfl, a, dx, _, rfl, s06 _ _ ha, rfl, _, rfl, _, rfl, _, rfl, _, rfl, a, b, d, g, ns, known, x, tbl, es, _, u, rfl, ask.same s06, xin, tl, LA.same s06, List.mem_of_getElem? eu, ⟨og, mg, fun y hy => deM_val lu ask.ndn nmr .non (ask.sub y hy)⟩, fun H7 s7 => ?_⟩
      have s57 := s6.trans s7
      refine ⟨_, rfl, _, rfl, c, _, rfl, dk_av ask.ndn lu xin ▸ dget_r (k := Sum.inr x) (.inl (s57 _ _ oc)), .int (av ns u x), rfl, .inl ⟨_, rfl⟩, fun H8 s8 => ⟨_, rfl, iteF ⟨s5.trans (s57.trans s8), _, _, _, rfl⟩⟩⟩
    · rintro σ H5 ⟨s5, s5', s6', s7', rfl⟩
      exact hq H5 (s04.trans s5)
end
end L2.TB
/-! the law: what it reads, what stands -/
namespace L2.TB
open PySem PySem.Spec PyProof.Rows MK
structure LawR (P : Program) (w : World) (K : PySem.W.Frag) (mg : Str → Option Value) (base : Heap) (C fIn : Addr) : Prop where
  tc : TabC K C
  start : ∃ f fd, mg "_law_start" = some (.ref f) ∧ Fun K "_law_start" "_law_start" sStart f fd
  rows : ∃ f fd, mg "_law_t_rows" = some (.ref f) ∧ Fun K "_law_t_rows" "_law_t_rows" sRows f fd ∧ FnOk P w K mg base CX0 4 f fd ["stream", "many", "rows", "values"] spRows
  turned : ∃ f fd, mg "_law_t_turned_rows" = some (.ref f) ∧ Fun K "_law_t_turned_rows" "_law_t_turned_rows" sTurned f fd ∧ FnOk P w K mg base CX0 3 f fd ["stream", "rows"] spTurned
  sm : ∃ f fd, mg "_law_t_some" = some (.ref f) ∧ Fun K "_law_t_some" "_law_t_some" sSome f fd ∧ FnOk P w K mg base CX0 3 f fd ["stream", "names"] (spSome K)
  pick : ∃ f fd, mg "_law_pick" = some (.ref f) ∧ Fun K "_law_pick" "_law_pick" sPick f fd ∧ FnOk P w K mg base CX0 2 f fd ["stream", "some"] (spPick K)
  tells : ∃ f fd, mg "_law_t_tells" = some (.ref f) ∧ Fun K "_law_t_tells" "_law_t_tells" sTells f fd ∧ FnOk P w K mg base CX0 2 f fd ["rows", "known", "asked"] (spTells K)
  same : ∃ f fd, mg "_law_same" = some (.ref f) ∧ Fun K "_law_same" "_law_same" sSame f fd ∧ FnOk P w K mg base CX0 1 f fd ["found", "due"] spSameB
  lot : ∃ f fd, mg "_law_lot" = some (.ref f) ∧ Fun K "_law_lot" "_law_lot" sLot f fd ∧ FnOk P w K mg base CX0 2 f fd ["rows", "known", "asked"] (spLot w K)
  planR : ∃ f fd, mg "_law_plan_right" = some (.ref f) ∧ Fun K "_law_plan_right" "_law_plan_right" sPlanR f fd ∧ FnOk P w K mg base CX0 7 f fd ["table", "rows", "known", "asked", "plan"] (spPlanR w K C)
  bentW : ∃ f fd, mg "_law_bent_worlds" = some (.ref f) ∧ Fun K "_law_bent_worlds" "_law_bent_worlds" sBentW f fd ∧ FnOk P w K mg base CX0 4 f fd ["stream", "rows"] (spBentW w K)
  lawAp : ∃ f fd, mg "_law_are_apart" = some (.ref f) ∧ Fun K "_law_are_apart" "_law_are_apart" sLawAp f fd ∧ FnOk P w K mg base CX0 3 f fd ["rows", "known", "asked", "thing"] (spLawAp w K)
  told : ∃ f fd, Meth K C "is_told" f ∧ Fun K "is_told" "Table.is_told" sIsTold f fd ∧ FnOk P w K mg base CX0 5 f fd ["self", "known", "asked"] (spIsTold K C)
  plan : ∃ f fd, Meth K C "plan" f ∧ Fun K "plan" "Table.plan" sPlan f fd ∧ FnOk P w K mg base CX0 5 f fd ["self", "known", "asked"] (spPlan w K C)
  apart : ∃ f fd, Meth K C "apart" f ∧ Fun K "apart" "Table.apart" sApart f fd ∧ FnOk P w K mg base CX0 5 f fd ["self", "known", "asked"] (spApart K C)
  isPlan : ∃ f fd, Meth K C "is_plan" f ∧ Fun K "is_plan" "Table.is_plan" sIsPlan f fd ∧ FnOk P w K mg base CX0 5 f fd ["self", "known", "asked", "thing"] (spIsPlan w K C)
  areAp : ∃ f fd, Meth K C "are_apart" f ∧ Fun K "are_apart" "Table.are_apart" sAreAp f fd ∧ FnOk P w K mg base CX0 5 f fd ["self", "known", "asked", "thing"] (spAreAp w K C)
  made : Mk K C fIn
  init : ∃ fd, Fun K "__init__" "Table.__init__" sInit fIn fd ∧ FnOk P w K mg base CX0 3 fIn fd ["self", "rows"] (spInitG K C)
  gC : mg "Table" = some (.ref C)
  nR : mg "range" = none
  M : Sm mg
abbrev NLw : List Str := ["script", "stream", "turn", "rows", "table", "names", "asked", "known", "handed", "due", "plan", "pair", "lot", "thing", "told"]
theorem scLaw : FnScope NLw ["script"] (defScope sLaw) := ⟨rfl, rfl, rfl, by decide +kernel, rfl, by decide +kernel, by decide +kernel⟩
def forB : Stmt → List Stmt
  | .For _ _ b _ _ => b
  | _ => []
abbrev bodyT : List Stmt := forB ((defBody sLaw).getD 1 (.Pass ⟨0, 0, 0, 0⟩))
abbrev bodyA : List Stmt := forB (bodyT.getD 2 (.Pass ⟨0, 0, 0, 0⟩))
theorem TabAt.but {H H' : Hp} {C a l ls : Addr} {ns : List Str} {tbl : List (List Int)} {N : Int} (t : TabAt H C a ns tbl) (S : Strm H l ls N) (B : But l ls H H') (nn : ns ≠ []) (tn : tbl ≠ []) : TabAt H' C a ns tbl := by
  obtain ⟨dx, qa, ra, ha, hqa, ps, hra, prs⟩ := t.ex
  obtain ⟨cs, g, k, m, S⟩ := S
  obtain ⟨n0, nr, rfl⟩ := List.exists_cons_of_ne_nil nn
  obtain ⟨t0, tr, rfl⟩ := List.exists_cons_of_ne_nil tn
  cases prs with
  | cons p0 prs =>
    rename_i p ps
    refine ⟨dx, qa, ra, B _ _ ?_ ?_ ha, B _ _ ?_ ?_ hqa, p :: ps, B _ _ ?_ ?_ hra, Paired.mapP (.cons p0 prs) fun q vs h => ⟨B _ _ ?_ ?_ h.1, h.2⟩⟩
    · exact ne_of ha S.o (by intro z; cases z)
    · exact ne_of ha S.c (by intro z; cases z)
    · exact ne_of hqa S.o (by intro z; cases z)
    · refine ne_of hqa S.c (fun z => ?_)
      have z := HO.lst.inj z
      cases cs <;> cases z
    · refine ne_of hra S.o (fun z => ?_)
      have z := HO.lst.inj z
      cases ps <;> cases z
    · refine ne_of hra S.c (fun z => ?_)
      have z := HO.lst.inj z
      cases cs <;> cases z
    · exact ne_of h.1 S.o (by intro z; cases z)
    · exact ne_of h.1 S.c (by intro z; cases z)
/-- what a turn draws first -/
structure Base (H : Hp) (C l ls rr q n : Addr) (as : List Addr) (ns : List Str) (tbl : List (List Int)) (N : Int) : Prop where
  S : Strm H l ls N
  r : H rr = some (.lst (as.map V.ref))
  rl : rr ≠ l
  rls : rr ≠ ls
  R : RowsAt H l ls ns as tbl
  t : TabAt H C q ns tbl
  on : H n = some (.lst (ns.map V.str))
  nl : n ≠ l
  nls : n ≠ ls
  ndn : ns.Nodup
  nn : ns ≠ []
  nms : ∀ x ∈ ns, NmS x
  l1 : ns.length ≤ 10
  l2 : tbl.length ≤ 20
  tn : tbl ≠ []
  bd : ∀ u ∈ tbl, ∀ z ∈ u, -1 ≤ z ∧ z ≤ 100
section
variable {w : World} {K : PySem.W.Frag} {H H' : Hp} {C l ls rr q n : Addr} {as : List Addr} {ns : List Str} {tbl : List (List Int)} {N N' : Int}
theorem Base.but (b : Base H C l ls rr q n as ns tbl N) (B : But l ls H H') (S : Strm H' l ls N') : Base H' C l ls rr q n as ns tbl N' :=
  ⟨S, B _ _ b.rl b.rls b.r, b.rl, b.rls, b.R.but B, b.t.but b.S B b.nn b.tn, B _ _ b.nl b.nls b.on, b.nl, b.nls, b.ndn, b.nn, b.nms, b.l1, b.l2, b.tn, b.bd⟩
theorem Base.same (b : Base H C l ls rr q n as ns tbl N) (s : Same H H') : Base H' C l ls rr q n as ns tbl N := b.but (But.of s) (b.S.same s)
theorem Base.mono (b : Base H C l ls rr q n as ns tbl N) (h : N ≤ N') : Base H C l ls rr q n as ns tbl N' := { b with S := b.S.mono h }
/-- what is no dict of this kind stays -/
def Keep (H H' : Hp) : Prop := ∀ b o, H b = some o → (∀ f, o ≠ .ext f) → H' b = some o
theorem Base.keep (b : Base H C l ls rr q n as ns tbl N) (k : Keep H H') : Base H' C l ls rr q n as ns tbl N := by
  obtain ⟨cs, g, kk, m, S⟩ := b.S
  obtain ⟨dx, qa, ra, ha, hqa, ps, hra, prs⟩ := b.t.ex
  exact ⟨⟨cs, g, kk, m, k _ _ S.o (fun _ z => by cases z), k _ _ S.c (fun _ z => by cases z), S.ne, S.g0, S.k0, S.k1, S.m0, S.m1, S.sz⟩, k _ _ b.r (fun _ z => by cases z), b.rl, b.rls, Paired.mapP b.R fun a vs h => ⟨k _ _ h.1 (fun _ z => by cases z), h.2⟩,
    ⟨dx, qa, ra, k _ _ ha (fun _ z => by cases z), k _ _ hqa (fun _ z => by cases z), ps, k _ _ hra (fun _ z => by cases z), Paired.mapP prs fun p vs h => ⟨k _ _ h.1 (fun _ z => by cases z), h.2⟩⟩, k _ _ b.on (fun _ z => by cases z), b.nl, b.nls, b.ndn, b.nn, b.nms, b.l1, b.l2, b.tn, b.bd⟩
theorem Base.drows (b : Base H C l ls rr q n as ns tbl N) : DRows H ns as tbl := Paired.mapP b.R fun a vs h => ⟨h.1, h.2.1⟩
theorem Base.nmr (b : Base H C l ls rr q n as ns tbl N) : mr ∉ ns := mr_new b.nms
theorem LotAt.but {d : Addr} {es : List En} {L : Lot} (h : LotAt w H d es L) (S : Strm H l ls N) (B : But l ls H H') : LotAt w H' d es L := by
  obtain ⟨cs, g, k, m, S⟩ := S
  refine ⟨B _ _ (fun z => ?_) (fun z => ?_) h.o, h.e.mono fun a vs e => B _ _ (fun z => ?_) (fun z => ?_) e⟩
  · have o := h.o
    rw [z, S.o] at o
    unfold DE DX at o
    cases o
  · have o := h.o
    rw [z, S.c] at o
    unfold DE DX at o
    cases o
  · rw [z, S.o] at e; cases e
  · rw [z, S.c] at e; cases e
theorem PairAt.same {t p q' : Addr} {known : List Str} {x : Str} {u v : List Int} (h : PairAt H t ns known tbl x p q' u v) (s : Same H H') : PairAt H' t ns known tbl x p q' u v := ⟨s _ _ h.o, s _ _ h.op, s _ _ h.oq, h.mu, h.mv, h.lu, h.lv, h.k, h.ne⟩
theorem PairAt.but {t p q' : Addr} {known : List Str} {x : Str} {u v : List Int} (h : PairAt H t ns known tbl x p q' u v) (S : Strm H l ls N) (B : But l ls H H') : PairAt H' t ns known tbl x p q' u v := by
  obtain ⟨cs, g, k, m, S⟩ := S
  exact ⟨B _ _ (ne_of h.o S.o (by intro z; cases z)) (ne_of h.o S.c (by intro z; cases z)) h.o, B _ _ (ne_of h.op S.o (by intro z; cases z)) (ne_of h.op S.c (by intro z; cases z)) h.op, B _ _ (ne_of h.oq S.o (by intro z; cases z)) (ne_of h.oq S.c (by intro z; cases z)) h.oq, h.mu, h.mv, h.lu, h.lv, h.k, h.ne⟩
/-- the known ones, as they are handed -/
structure Known (K : PySem.W.Frag) (H : Hp) (l ls c hn : Addr) (ns known : List Str) : Prop where
  oc : SqA K H c (known.map V.str)
  cl : c ≠ l
  cls : c ≠ ls
  oh : SqA K H hn (known.map V.str)
  hl : hn ≠ l
  hls : hn ≠ ls
  nd : known.Nodup
  sub : ∀ x ∈ known, x ∈ ns
theorem Known.but {c hn : Addr} {known : List Str} (k : Known K H l ls c hn ns known) (B : But l ls H H') : Known K H' l ls c hn ns known :=
  ⟨k.oc.imp (B _ _ k.cl k.cls) (B _ _ k.cl k.cls), k.cl, k.cls, k.oh.imp (B _ _ k.hl k.hls) (B _ _ k.hl k.hls), k.hl, k.hls, k.nd, k.sub⟩
theorem Known.same {c hn : Addr} {known : List Str} (k : Known K H l ls c hn ns known) (s : Same H H') : Known K H' l ls c hn ns known := k.but (But.of s)
theorem Known.keep {c hn : Addr} {known : List Str} (k : Known K H l ls c hn ns known) (s : Keep H H') : Known K H' l ls c hn ns known :=
  ⟨k.oc.imp (fun e => s _ _ e (fun _ z => by cases z)) (fun e => s _ _ e (fun _ z => by cases z)), k.cl, k.cls, k.oh.imp (fun e => s _ _ e (fun _ z => by cases z)) (fun e => s _ _ e (fun _ z => by cases z)), k.hl, k.hls, k.nd, k.sub⟩
theorem Base.asked {c hn : Addr} {known : List Str} (b : Base H C l ls rr q n as ns tbl N) (k : Known K H l ls c hn ns known) : Asked K H C q hn ns known tbl :=
  ⟨b.t, k.oh, k.nd, k.sub, by have := b.l1; omega, by have := b.l2; omega, b.ndn⟩
theorem Base.short {c hn : Addr} {known : List Str} (b : Base H C l ls rr q n as ns tbl N) (k : Known K H l ls c hn ns known) : known.length < 1000 := (b.asked k).short
theorem Base.told {c hn : Addr} {known : List Str} (b : Base H C l ls rr q n as ns tbl N) (k : Known K H l ls c hn ns known) : Told K H rr c as ns known tbl := ⟨b.r, b.drows.rd, k.oc, k.sub, b.short k, b.ndn⟩
/-- plan and pair, as they were told -/
inductive PP (w : World) (H : Hp) (ns known : List Str) (tbl : List (List Int)) (x : Str) : V → V → Prop
  | yes {d : Addr} {es : List En} (t : Tells ns tbl known x) (l : LotAt w H d es (lotOf ns known x tbl)) : PP w H ns known tbl x (.ref d) .non
  | no {t p q : Addr} {u v : List Int} (nt : ¬ Tells ns tbl known x) (a : PairAt H t ns known tbl x p q u v) : PP w H ns known tbl x .non (.ref t)
theorem PP.same {known : List Str} {x : Str} {y z : V} (h : PP w H ns known tbl x y z) (s : Same H H') : PP w H' ns known tbl x y z := by
  cases h with
  | yes t l => exact .yes t (l.same s)
  | no nt a => exact .no nt (a.same s)
theorem PP.but {known : List Str} {x : Str} {y z : V} (h : PP w H ns known tbl x y z) (S : Strm H l ls N) (B : But l ls H H') : PP w H' ns known tbl x y z := by
  cases h with
  | yes t l => exact .yes t (l.but S B)
  | no nt a => exact .no nt (a.but S B)
theorem PP.two {known : List Str} {x : Str} {y z : V} (h : PP w H ns known tbl x y z) : ∃ o, TwL w K H ns z o := by
  cases h with
  | yes t l => exact ⟨_, .odd .non⟩
  | no nt a => exact ⟨_, .pair (.inr a.o) (.row a.op a.lu) (.row a.oq a.lv)⟩
end
end L2.TB
/-! the law: the last statements of a turn -/
namespace L2.TB
open PySem PySem.Spec PyProof.Rows MK
section
variable {P : Program} {w : World} {K : PySem.W.Frag} {mg : Str → Option Value} {base : Heap} {f C fIn : Addr} {cdv : Value} {A : Around} {outer : List Env} {s : Shared} {H : Hp} {E : XK}
/-- if due: the plan is changed, a new one is as it was -/
theorem turn_5 (L : LawR P w K mg base C fIn) (hr : Room 7 (A.deeper (envOfC "law" (defScope sLaw) s.heap.objs.size f cdv))) :
    ∃ t, PS (cxOf CX0 P w K mg base NLw "law" (defScope sLaw) f cdv A outer s H E).nox (bodyA.getD 12 (.Pass ⟨0, 0, 0, 0⟩)) t ∧ ∀ (D : Ends) (H0 : Hp) (s0 s2 s13 s14 : Option V) (l ls rr q n c hn dl : Addr) (as : List Addr) (ns known : List Str) (tbl : List (List Int)) (N : Int) (x : Str) (y z : V) (fs : List En),
      Base H0 C l ls rr q n as ns tbl N → Known K H0 l ls c hn ns known → x ∈ ns → PP w H0 ns known tbl x y z → LotAt w H0 dl fs (lotOf ns known x tbl) → y ≠ .ref dl →
      (∀ H', Base H' C l ls rr q n as ns tbl N → Keep H0 H' → D.nx [s0, some (.ref l), s2, some (.ref rr), some (.ref q), some (.ref n), some (.str x), some (.ref c), some (.ref hn), some (.bl (decide (Tells ns tbl known x))), some y, some z, some (.ref dl), s13, s14] H') →
      t D [s0, some (.ref l), s2, some (.ref rr), some (.ref q), some (.ref n), some (.str x), some (.ref c), some (.ref hn), some (.bl (decide (Tells ns tbl known x))), some y, some z, some (.ref dl), s13, s14] H0 := by
  obtain ⟨fP, fdP, mP, FP, GP⟩ := L.plan
  have bP := FP.binds (ps := ["self", "known", "asked"]) fun _ _ _ _ _ _ us hl => match us, hl with | [_, _, _], _ => rfl
  refine ⟨_, ps_if (pt_val (pv 9)) (pss_cons (ps_dputX (w := w) rfl (hu_in hr) (pv 10) pe_str pe_int rfl) (pss_one (ps_if (pt_cmpR (r := rEqX w true) (op_neX rfl (hu_in hr) (hu_lt hr)) (pe_meth (pv 4) L.tc.cl mP GP (hr.mono (by decide)) bP .nil pass0 (pa_cons (pv 8) (pa_cons (pv 6) pa_nil))) (pv 12) (nomark _)) (pss_one ps_never) pss_nil))) pss_nil, ?_⟩
  intro D H0 s0 s2 s13 s14 l ls rr q n c hn dl as ns known tbl N x y z fs B Kn xin pp LL yd fin
  cases pp with
  | no nt a =>
    refine ⟨_, rfl, _, rfl, ?_⟩
    rw [decide_eq_false nt]
    rw [decide_eq_false nt] at fin
    exact iteF (fin H0 B fun b o e _ => e)
  | @yes d es t LA =>
    refine ⟨_, rfl, _, rfl, ?_⟩
    rw [decide_eq_true t]
    rw [decide_eq_true t] at fin
    have dne : dl ≠ d := fun z => yd (congrArg V.ref z.symm)
    have lnd := lot_nd (ns := ns) (known := known) (x := x) tbl
    have mx := LA.e.mix lnd
    have llen := lot_len (ns := ns) (known := known) (x := x) tbl
    have le : es.length = (lotOf ns known x tbl).length := Paired.length LA.e
    have b2 := B.l2
    refine iteT ⟨_, rfl, d, es, .text "late", rfl, LA.o, mx, .str _, by simp [NestedKey.depth], by rw [sizeLine_eq]; omega, ?_⟩
    have kp : ∀ {b o}, b ≠ d → H0 b = some o → (upd H0 d (DE w d (putE es (.text "late") (.str "late") (.int 1)))) b = some o := fun n e => by rw [upd_ne n]; exact e
    have keep : Keep H0 (upd H0 d (DE w d (putE es (.text "late") (.str "late") (.int 1)))) := fun b o e no => kp (fun z => by
      rw [z, LA.o] at e
      exact no _ (Option.some.inj e).symm) e
    have B1 := B.keep keep
    have K1 := Kn.keep keep
    have L1 : LotAt w (upd H0 d (DE w d (putE es (.text "late") (.str "late") (.int 1)))) dl fs (lotOf ns known x tbl) := ⟨kp dne LL.o, LL.e.mono fun a vs e => keep _ _ e (fun _ z => by cases z)⟩
    generalize upd H0 d (DE w d (putE es (.text "late") (.str "late") (.int 1))) = H1 at kp keep B1 K1 L1
    obtain ⟨dx, qa, ra, ha, _⟩ := id B1.t.ex
    refine ⟨_, rfl, q, dx, _, rfl, ha, rfl, _, rfl, _, rfl, q, hn, ns, known, x, tbl, rfl, B1.asked K1, xin, fun _ H2 d2 gs nd2 LG s2 => ?_, fun no => absurd t no⟩
    have L2' := L1.same s2
    obtain ⟨l12, al⟩ := lots_alike lnd LG.e L2'.e
    exact ⟨_, rfl, d2, dl, gs, fs, rfl, rfl, .inl LG.o, .inl L2'.o, LG.e.mix lnd, L2'.e.mix lnd, l12, al, _, rfl, iteF (fin H2 (B1.same s2) fun b o e no => s2 _ _ (keep _ _ e no))⟩
/-- the things looked at as two worlds -/
theorem turn_4 (L : LawR P w K mg base C fIn) (hr : Room 7 (A.deeper (envOfC "law" (defScope sLaw) s.heap.objs.size f cdv))) :
    ∃ t, PS (cxOf CX0 P w K mg base NLw "law" (defScope sLaw) f cdv A outer s H E).nox (bodyA.getD 11 (.Pass ⟨0, 0, 0, 0⟩)) t ∧ ∀ (D : Ends) (H0 : Hp) (s0 s2 s9 s12 s13 s14 : Option V) (l ls rr q n c hn : Addr) (as : List Addr) (ns known : List Str) (tbl : List (List Int)) (N : Int) (x : Str) (y z : V),
      Base H0 C l ls rr q n as ns tbl N → N ≤ 900000 → Known K H0 l ls c hn ns known → x ∈ ns → PP w H0 ns known tbl x y z →
      (∀ H' s13 s14, Base H' C l ls rr q n as ns tbl (N + 2) → But l ls H0 H' → D.nx [s0, some (.ref l), s2, some (.ref rr), some (.ref q), some (.ref n), some (.str x), some (.ref c), some (.ref hn), s9, some y, some z, s12, s13, s14] H') →
      t D [s0, some (.ref l), s2, some (.ref rr), some (.ref q), some (.ref n), some (.str x), some (.ref c), some (.ref hn), s9, some y, some z, s12, s13, s14] H0 := by
  obtain ⟨fB, fdB, gB, FB, GB⟩ := L.bentW
  have bB := FB.binds (ps := ["stream", "rows"]) fun _ _ _ _ _ _ us hl => match us, hl with | [_, _], _ => rfl
  obtain ⟨fA, fdA, mA, FA, GA⟩ := L.areAp
  have bA := FA.binds (ps := ["self", "known", "asked", "thing"]) fun _ _ _ _ _ _ us hl => match us, hl with | [_, _, _, _], _ => rfl
  obtain ⟨fL, fdL, gL, FL, GL⟩ := L.lawAp
  have bL := FL.binds (ps := ["rows", "known", "asked", "thing"]) fun _ _ _ _ _ _ us hl => match us, hl with | [_, _, _, _], _ => rfl
  obtain ⟨fS, fdS, gS, FS, GS⟩ := L.same
  have bS := FS.binds (ps := ["found", "due"]) fun _ _ _ _ _ _ us hl => match us, hl with | [_, _], _ => rfl
  have nd := scLaw.nd
  refine ⟨_, ps_for PassesOwn.never rfl (pi_list (pe_op op_cat (pe_call GB (hr.mono (by decide)) rfl gB FB.kp bB .nil pass0 (pa_cons (pv 1) (pa_cons (pv 3) pa_nil))) (pe_lst (pa_cons (pv 11) pa_nil)))) (pg_name (i := 13) nd rfl (Or.inl rfl))
    (pss_cons (ps_set (i := 14) nd rfl (Or.inl rfl) (pe_meth (pv 4) L.tc.cl mA GA (hr.mono (by decide)) bA .nil pass0 (pa_cons (pv 8) (pa_cons (pv 6) (pa_cons (pv 13) pa_nil)))))
    (pss_one (ps_if (pt_not (pt_val (pe_call GS (hr.mono (by decide)) rfl gS FS.kp bS .nil pass0 (pa_cons (pv 14) (pa_cons (pe_call GL (hr.mono (by decide)) rfl gL FL.kp bL .nil pass0 (pa_cons (pv 3) (pa_cons (pv 7) (pa_cons (pv 6) (pa_cons (pv 13) pa_nil))))) pa_nil))))) (pss_one ps_never) pss_nil))), ?_⟩
  intro D H0 s0 s2 s9 s12 s13 s14 l ls rr q n c hn as ns known tbl N x y z B hN Kn xin pp fin
  have l1 := B.l1
  have l2 := B.l2
  refine ⟨_, rfl, _, rfl, l, ls, rr, as, ns, tbl, N, rfl, B.S, hN, B.r, B.rl, B.rls, B.R, B.tn, by omega, B.ndn, B.nmr, by omega, fun H1 qb bs nqb qbl qbls oqb lbs tw S1 B1 => ?_⟩
  refine ⟨_, rfl, (by show 1 ≤ sizeLine; decide), fun p np => ?_⟩
  have kp := same_new (o := .lst [z]) np
  have op := upd_same (H := H1) (a := p) (o := .lst [z])
  generalize upd H1 p (.lst [z]) = H2 at kp op
  refine ⟨qb, p, bs, [z], rfl, rfl, kp _ _ oqb, op, (by rw [sizeLine_eq]; show _ + 1 ≤ _; omega), fun pp2 npp => ?_⟩
  have kq := same_new (o := .lst (bs ++ [z])) npp
  have oq := upd_same (H := H2) (a := pp2) (o := .lst (bs ++ [z]))
  generalize upd H2 pp2 (.lst (bs ++ [z])) = H3 at kq oq
  have k13 := kp.trans kq
  have B03 := B1.trans (But.of k13)
  have B3 : Base H3 C l ls rr q n as ns tbl (N + 2) := B.but B03 (S1.same k13)
  have K3 := Kn.but B03
  have pp3 := pp.but B.S B03
  have tw3 : ∀ b ∈ bs ++ [z], ∃ o, TwL w K H3 ns b o := fun b hb => by
    rcases List.mem_append.mp hb with hb | hb
    · obtain ⟨o, h⟩ := tw b hb
      exact ⟨o, h.same k13⟩
    · rw [List.mem_singleton] at hb
      rw [hb]
      exact pp3.two
  refine ⟨pp2, rfl, ⟨_, SqL.of oq⟩, for_list (xs := bs ++ [z]) (fun i σ H' => Same H3 H' ∧ ∃ s13 s14, σ = [s0, some (.ref l), s2, some (.ref rr), some (.ref q), some (.ref n), some (.str x), some (.ref c), some (.ref hn), s9, some y, some z, s12, s13, s14]) ⟨Same.refl _, _, _, rfl⟩ (fun i σ H' _ h => SqL.of (h.1 _ _ oq)) ?_ ?_⟩
  · rintro i v σ H4 ev ⟨k4, s13', s14', rfl⟩
    obtain ⟨o, th⟩ := tw3 v (List.mem_of_getElem? ev)
    have th4 := th.same k4
    have B4 := B3.same k4
    have K4 := K3.same k4
    obtain ⟨dx, qa, ra, ha, _⟩ := id B4.t.ex
    refine ⟨_, rfl, q, dx, _, rfl, ha, rfl, _, rfl, _, rfl, _, rfl, q, hn, ns, known, x, tbl, v, o, rfl, B4.asked K4, xin, th4.th B.ndn, fun H5 k5 => ?_⟩
    have B5 := B4.same k5
    have K5 := K4.same k5
    refine ⟨_, rfl, _, rfl, _, rfl, _, rfl, _, rfl, rr, c, as, ns, known, x, tbl, v, o, rfl, B5.r, B5.drows, K5.oc, K5.sub, B5.short K5, B5.ndn, xin, th4.same k5, fun H6 k6 => ?_⟩
    exact ⟨_, rfl, .inr ⟨_, rfl⟩, fun H7 k7 => ⟨_, rfl, iteF ⟨k4.trans (k5.trans (k6.trans k7)), _, _, rfl⟩⟩⟩
  · rintro σ H4 ⟨k4, s13', s14', rfl⟩
    exact fin H4 _ _ (B3.same k4) (B03.trans (But.of k4))
end
end L2.TB
/-! the law: the middle of a turn -/
namespace L2.TB
open PySem PySem.Spec PyProof.Rows MK
section
variable {P : Program} {w : World} {K : PySem.W.Frag} {mg : Str → Option Value} {base : Heap} {f C fIn : Addr} {cdv : Value} {A : Around} {outer : List Env} {s : Shared} {H : Hp} {E : XK}
theorem turn_2 (L : LawR P w K mg base C fIn) (hr : Room 7 (A.deeper (envOfC "law" (defScope sLaw) s.heap.objs.size f cdv))) {rest : List Stmt} {u : TS} (hrest : PSs (cxOf CX0 P w K mg base NLw "law" (defScope sLaw) f cdv A outer s H E).nox rest u) :
    ∃ t, PSs (cxOf CX0 P w K mg base NLw "law" (defScope sLaw) f cdv A outer s H E).nox ((bodyA.drop 4).take 3 ++ rest) t ∧ ∀ (D : Ends) (H0 : Hp) (s0 s2 s10 s11 s12 s13 s14 : Option V) (l ls rr q n c hn : Addr) (as : List Addr) (ns known : List Str) (tbl : List (List Int)) (N : Int) (x : Str),
      Base H0 C l ls rr q n as ns tbl N → Known K H0 l ls c hn ns known → x ∈ ns →
      (∀ H' y z, Base H' C l ls rr q n as ns tbl N → Known K H' l ls c hn ns known → PP w H' ns known tbl x y z → Same H0 H' → u D [s0, some (.ref l), s2, some (.ref rr), some (.ref q), some (.ref n), some (.str x), some (.ref c), some (.ref hn), some (.bl (decide (Tells ns tbl known x))), some y, some z, s12, s13, s14] H') →
      t D [s0, some (.ref l), s2, some (.ref rr), some (.ref q), some (.ref n), some (.str x), some (.ref c), some (.ref hn), some (.bl (decide (Tells ns tbl known x))), s10, s11, s12, s13, s14] H0 := by
  obtain ⟨fP, fdP, mP, FP, GP⟩ := L.plan
  have bP := FP.binds (ps := ["self", "known", "asked"]) fun _ _ _ _ _ _ us hl => match us, hl with | [_, _, _], _ => rfl
  obtain ⟨fA, fdA, mA, FA, GA⟩ := L.apart
  have bA := FA.binds (ps := ["self", "known", "asked"]) fun _ _ _ _ _ _ us hl => match us, hl with | [_, _, _], _ => rfl
  obtain ⟨fR, fdR, gR, FR, GR⟩ := L.planR
  have bR := FR.binds (ps := ["table", "rows", "known", "asked", "plan"]) fun _ _ _ _ _ _ us hl => match us, hl with | [_, _, _, _, _], _ => rfl
  have nd := scLaw.nd
  refine ⟨_, pss_cons (ps_par (i := 10) (j := 11) rfl nd rfl rfl (by decide) rfl rfl (pa_cons (pe_meth (pv 4) L.tc.cl mP GP (hr.mono (by decide)) bP .nil pass0 (pa_cons (pv 8) (pa_cons (pv 6) pa_nil))) (pa_cons (pe_meth (pv 4) L.tc.cl mA GA (hr.mono (by decide)) bA .nil pass0 (pa_cons (pv 8) (pa_cons (pv 6) pa_nil))) pa_nil)) (by rfl))
    (pss_cons (ps_if (PW.pt (pw_or (pt_cmpR op_ne (pe_cmp (pc_notN (pv 10))) (pv 9) (nomark _)) (pw_or1 (pt_cmpR op_ne (pe_cmp (pc_isN (pv 11))) (pv 9) (nomark _))))) (pss_one ps_never) pss_nil)
    (pss_cons (ps_if (PW.pt (pw_and (pt_val (pv 9)) (pw_and1 (pt_not (pt_val (pe_call GR (hr.mono (by decide)) rfl gR FR.kp bR .nil pass0 (pa_cons (pv 4) (pa_cons (pv 3) (pa_cons (pv 8) (pa_cons (pv 6) (pa_cons (pv 10) pa_nil))))))))))) (pss_one ps_never) pss_nil) hrest)), ?_⟩
  intro D H0 s0 s2 s10 s11 s12 s13 s14 l ls rr q n c hn as ns known tbl N x B Kn xin fin
  obtain ⟨dx, qa, ra, ha, _⟩ := id B.t.ex
  have l2 := B.l2
  refine ⟨_, rfl, q, dx, _, rfl, ha, rfl, _, rfl, _, rfl, q, hn, ns, known, x, tbl, rfl, B.asked Kn, xin, fun tl H1 d es nd1 LA s1 => ?_, fun nt H1 s1 => ?_⟩
  · have B1 := B.same s1
    have K1 := Kn.same s1
    refine ⟨_, rfl, q, dx, _, rfl, s1 _ _ ha, rfl, _, rfl, _, rfl, q, hn, ns, known, x, tbl, rfl, B1.asked K1, xin, fun _ H2 s2 => ?_, fun nt => absurd tl nt⟩
    have B2 := B1.same s2
    have K2 := K1.same s2
    have L2' := LA.same s2
    refine ⟨_, _, rfl, ?_⟩
    rw [decide_eq_true tl]
    rw [decide_eq_true tl] at fin
    refine ⟨_, rfl, _, rfl, rfl, _, rfl, iteF ⟨_, rfl, _, rfl, rfl, _, rfl, iteF ?_⟩⟩
    refine ⟨_, rfl, _, rfl, iteT ⟨_, rfl, _, rfl, _, rfl, _, rfl, _, rfl, q, rr, hn, d, as, ns, known, x, tbl, es, rfl, B2.asked K2, B2.r, B2.drows, xin, tl, L2', B2.nmr, B.bd, by omega, fun H3 s3 => ⟨_, rfl, iteF ?_⟩⟩⟩
    exact fin H3 _ _ (B2.same s3) (K2.same s3) (.yes tl (L2'.same s3)) (s1.trans (s2.trans s3))
  · have B1 := B.same s1
    have K1 := Kn.same s1
    refine ⟨_, rfl, q, dx, _, rfl, s1 _ _ ha, rfl, _, rfl, _, rfl, q, hn, ns, known, x, tbl, rfl, B1.asked K1, xin, fun tl => absurd tl nt, fun _ H2 t p p' u' v' ntt PA s2 => ?_⟩
    have B2 := B1.same s2
    have K2 := K1.same s2
    refine ⟨_, _, rfl, ?_⟩
    rw [decide_eq_false nt]
    rw [decide_eq_false nt] at fin
    refine ⟨_, rfl, _, rfl, rfl, _, rfl, iteF ⟨_, rfl, _, rfl, rfl, _, rfl, iteF ?_⟩⟩
    refine ⟨_, rfl, _, rfl, iteF (iteF ?_)⟩
    exact fin H2 _ _ B2 K2 (.no nt PA) (s1.trans s2)
theorem turn_3 (L : LawR P w K mg base C fIn) (hr : Room 7 (A.deeper (envOfC "law" (defScope sLaw) s.heap.objs.size f cdv))) {rest : List Stmt} {u : TS} (hrest : PSs (cxOf CX0 P w K mg base NLw "law" (defScope sLaw) f cdv A outer s H E).nox rest u) :
    ∃ t, PSs (cxOf CX0 P w K mg base NLw "law" (defScope sLaw) f cdv A outer s H E).nox ((bodyA.drop 7).take 4 ++ rest) t ∧ ∀ (D : Ends) (H0 : Hp) (s0 s2 s12 s13 s14 : Option V) (l ls rr q n c hn : Addr) (as : List Addr) (ns known : List Str) (tbl : List (List Int)) (N : Int) (x : Str) (y z : V),
      Base H0 C l ls rr q n as ns tbl N → Known K H0 l ls c hn ns known → x ∈ ns → PP w H0 ns known tbl x y z →
      (∀ H' dl fs, Base H' C l ls rr q n as ns tbl N → Known K H' l ls c hn ns known → PP w H' ns known tbl x y z → LotAt w H' dl fs (lotOf ns known x tbl) → y ≠ .ref dl → u D [s0, some (.ref l), s2, some (.ref rr), some (.ref q), some (.ref n), some (.str x), some (.ref c), some (.ref hn), some (.bl (decide (Tells ns tbl known x))), some y, some z, some (.ref dl), s13, s14] H') →
      t D [s0, some (.ref l), s2, some (.ref rr), some (.ref q), some (.ref n), some (.str x), some (.ref c), some (.ref hn), some (.bl (decide (Tells ns tbl known x))), some y, some z, s12, s13, s14] H0 := by
  obtain ⟨fT, fdT, gT, FT, GT⟩ := L.lot
  have bT := FT.binds (ps := ["rows", "known", "asked"]) fun _ _ _ _ _ _ us hl => match us, hl with | [_, _, _], _ => rfl
  obtain ⟨fI, fdI, mI, FI, GI⟩ := L.isPlan
  have bI := FI.binds (ps := ["self", "known", "asked", "thing"]) fun _ _ _ _ _ _ us hl => match us, hl with | [_, _, _, _], _ => rfl
  obtain ⟨fL, fdL, gL, FL, GL⟩ := L.lawAp
  have bL := FL.binds (ps := ["rows", "known", "asked", "thing"]) fun _ _ _ _ _ _ us hl => match us, hl with | [_, _, _, _], _ => rfl
  have nd := scLaw.nd
  refine ⟨_, pss_cons (ps_set (i := 12) nd rfl (Or.inl rfl) (pe_call GT (hr.mono (by decide)) rfl gT FT.kp bT .nil pass0 (pa_cons (pv 3) (pa_cons (pv 7) (pa_cons (pv 6) pa_nil)))))
    (pss_cons (ps_if (PW.pt (pw_and (pt_not (pt_val (pv 9))) (pw_and1 (pt_cmpR op_notBl (pe_meth (pv 4) L.tc.cl mI GI (hr.mono (by decide)) bI .nil pass0 (pa_cons (pv 8) (pa_cons (pv 6) (pa_cons (pv 12) pa_nil)))) pe_bl (nomark _))))) (pss_one ps_never) pss_nil)
    (pss_cons (ps_if (PW.pt (pw_and (pt_not (pt_val (pv 9))) (pw_and1 (pt_not (pt_val (pe_callB (r := rIsi K) call_isi rfl L.M.nI boot_isi (pa_cons (pv 11) (pa_cons (pe_bltn (v := .ty "tuple") rfl L.M.nT boot_tuple' rfl) pa_nil)))))))) (pss_one ps_never) pss_nil)
    (pss_cons (ps_if (PW.pt (pw_and (pt_not (pt_val (pv 9))) (pw_and1 (pt_not (pt_val (pe_call GL (hr.mono (by decide)) rfl gL FL.kp bL .nil pass0 (pa_cons (pv 3) (pa_cons (pv 7) (pa_cons (pv 6) (pa_cons (pv 11) pa_nil)))))))))) (pss_one ps_never) pss_nil) hrest))), ?_⟩
  intro D H0 s0 s2 s12 s13 s14 l ls rr q n c hn as ns known tbl N x y z B Kn xin pp fin
  have l2 := B.l2
  have llen := lot_len (ns := ns) (known := known) (x := x) tbl
  refine ⟨_, rfl, _, rfl, _, rfl, rr, c, as, ns, known, x, tbl, rfl, B.told Kn, xin, by omega, fun H1 dl fs ndl LL s1 => ?_⟩
  have B1 := B.same s1
  have K1 := Kn.same s1
  cases pp with
  | @yes d es tl LA =>
    have yd : V.ref d ≠ .ref dl := fun e => by
      have o := LA.o
      rw [V.ref.inj e, ndl] at o
      cases o
    rw [decide_eq_true tl]
    rw [decide_eq_true tl] at fin
    exact ⟨_, rfl, _, rfl, iteF (iteF ⟨_, rfl, _, rfl, iteF (iteF ⟨_, rfl, _, rfl, iteF (iteF (fin H1 dl fs B1 K1 (.yes tl (LA.same s1)) LL yd))⟩)⟩)⟩
  | @no t p p' u' v' nt PA =>
    have dxx := id B1.t.ex
    obtain ⟨dx, qa, ra, ha, _⟩ := dxx
    have pt := (lot_plan (K := K) LL (lot_nd tbl) (lot_short (B.short Kn)) (by omega)).1
    rw [decide_eq_false nt]
    rw [decide_eq_false nt] at fin
    refine ⟨_, rfl, _, rfl, iteT ⟨_, rfl, q, dx, _, rfl, ha, rfl, _, rfl, _, rfl, _, rfl, q, hn, ns, known, x, tbl, .ref dl, _, rfl, B1.asked K1, xin, pt, fun H2 s2 => ?_⟩⟩
    rw [decide_eq_false nt, Bool.false_and]
    have B2 := B1.same s2
    have K2 := K1.same s2
    have s02 := s1.trans s2
    have PA2 := PA.same s02
    refine ⟨false, false, rfl, rfl, _, rfl, iteF ⟨_, rfl, _, rfl, iteT ⟨_, rfl, _, _, _, _, true, rfl, .ty _, .base (.tup PA2.o), kit_ty (by decide +kernel), _, rfl, iteF ?_⟩⟩⟩
    have th : TwL w K H2 ns (.ref t) (some (some u', some v')) := .pair (.inr PA2.o) (.row PA2.op PA2.lu) (.row PA2.oq PA2.lv)
    refine ⟨_, rfl, _, rfl, iteT ⟨_, rfl, _, rfl, _, rfl, _, rfl, rr, c, as, ns, known, x, tbl, .ref t, _, rfl, B2.r, B2.drows, K2.oc, K2.sub, B2.short K2, B2.ndn, xin, th, fun H3 s3 => ?_⟩⟩
    have ab : apartB ns known x tbl (some (some u', some v')) = true := by
      show (decide (u' ∈ tbl) && (decide (v' ∈ tbl) && (decide (keyR ns known u' = keyR ns known v') && !decide (av ns u' x = av ns v' x)))) = true
      rw [decide_eq_true PA.mu, decide_eq_true PA.mv, decide_eq_true PA.k, decide_eq_false PA.ne]
      rfl
    rw [ab]
    exact ⟨_, rfl, iteF (fin H3 dl fs (B2.same s3) (K2.same s3) (.no nt (PA2.same s3)) (LL.same (s2.trans s3)) (fun z => by cases z))⟩
end
end L2.TB
/-! the law -/
namespace L2.TB
open PySem PySem.Spec PyProof.Rows MK
def spLawT (K : PySem.W.Frag) : Sp := fun vs H Q _ => ∃ (a : Addr) (ns : List Int), vs = [.ref a] ∧ SqL K H a (ns.map V.int) ∧ ns.length ≤ 63 ∧ ∀ H', Q (.bl true) H'
section
variable {P : Program} {w : World} {K : PySem.W.Frag} {mg : Str → Option Value} {base : Heap} {f C fIn : Addr} {fd : FuncData} {cdv : Value} {A : Around} {outer : List Env} {s : Shared} {H : Hp} {E : XK}
theorem turn_1 (L : LawR P w K mg base C fIn) (hr : Room 7 (A.deeper (envOfC "law" (defScope sLaw) s.heap.objs.size f cdv))) {rest : List Stmt} {u : TS} (hrest : PSs (cxOf CX0 P w K mg base NLw "law" (defScope sLaw) f cdv A outer s H E).nox rest u) :
    ∃ t, PSs (cxOf CX0 P w K mg base NLw "law" (defScope sLaw) f cdv A outer s H E).nox (bodyA.take 4 ++ rest) t ∧ ∀ (D : Ends) (H0 : Hp) (s0 s2 s7 s8 s9 s10 s11 s12 s13 s14 : Option V) (l ls rr q n : Addr) (as : List Addr) (ns : List Str) (tbl : List (List Int)) (N : Int) (x : Str),
      Base H0 C l ls rr q n as ns tbl N → N ≤ 700000 → x ∈ ns →
      (∀ H' c hn known, Base H' C l ls rr q n as ns tbl (N + 201) → Known K H' l ls c hn ns known → But l ls H0 H' → u D [s0, some (.ref l), s2, some (.ref rr), some (.ref q), some (.ref n), some (.str x), some (.ref c), some (.ref hn), some (.bl (decide (Tells ns tbl known x))), s10, s11, s12, s13, s14] H') →
      t D [s0, some (.ref l), s2, some (.ref rr), some (.ref q), some (.ref n), some (.str x), s7, s8, s9, s10, s11, s12, s13, s14] H0 := by
  obtain ⟨fO, fdO, gO, FO, GO⟩ := L.sm
  have bO := FO.binds (ps := ["stream", "names"]) fun _ _ _ _ _ _ us hl => match us, hl with | [_, _], _ => rfl
  obtain ⟨fP, fdP, gP, FP, GP⟩ := L.pick
  have bP := FP.binds (ps := ["stream", "some"]) fun _ _ _ _ _ _ us hl => match us, hl with | [_, _], _ => rfl
  obtain ⟨fT, fdT, gT, FT, GT⟩ := L.tells
  have bT := FT.binds (ps := ["rows", "known", "asked"]) fun _ _ _ _ _ _ us hl => match us, hl with | [_, _, _], _ => rfl
  obtain ⟨fS, fdS, gS, FS, GS⟩ := L.same
  have bS := FS.binds (ps := ["found", "due"]) fun _ _ _ _ _ _ us hl => match us, hl with | [_, _], _ => rfl
  obtain ⟨fI, fdI, mI, FI, GI⟩ := L.told
  have bI := FI.binds (ps := ["self", "known", "asked"]) fun _ _ _ _ _ _ us hl => match us, hl with | [_, _, _], _ => rfl
  have nd := scLaw.nd
  refine ⟨_, pss_cons (ps_set (i := 7) nd rfl (Or.inl rfl) (pe_call GO (hr.mono (by decide)) rfl gO FO.kp bO .nil pass0 (pa_cons (pv 1) (pa_cons (pv 5) pa_nil))))
    (pss_cons (ps_set (i := 8) nd rfl (Or.inl rfl) (pe_call GP (hr.mono (by decide)) rfl gP FP.kp bP .nil pass0 (pa_cons (pv 1) (pa_cons (pe_lst (pa_cons (pv 7) (pa_cons (pe_callTy (r := rTupOf K) call_tuple_of rfl L.M.nT boot_tuple' (pa_cons (pv 7) pa_nil)) pa_nil))) pa_nil))))
    (pss_cons (ps_set (i := 9) nd rfl (Or.inl rfl) (pe_call GT (hr.mono (by decide)) rfl gT FT.kp bT .nil pass0 (pa_cons (pv 3) (pa_cons (pv 7) (pa_cons (pv 6) pa_nil)))))
    (pss_cons (ps_if (pt_not (pt_val (pe_call GS (hr.mono (by decide)) rfl gS FS.kp bS .nil pass0 (pa_cons (pe_meth (pv 4) L.tc.cl mI GI (hr.mono (by decide)) bI .nil pass0 (pa_cons (pv 8) (pa_cons (pv 6) pa_nil))) (pa_cons (pv 9) pa_nil))))) (pss_one ps_never) pss_nil) hrest))), ?_⟩
  intro D H0 s0 s2 s7 s8 s9 s10 s11 s12 s13 s14 l ls rr q n as ns tbl N x B hN xin fin
  have l1 := B.l1
  refine ⟨_, rfl, _, rfl, l, ls, n, ns.map V.str, N, rfl, B.S, by omega, B.on, B.nl, B.nls, by rw [List.length_map]; omega, fun H5 c ys zs pm nc oc S5 B5 => ?_⟩
  have yin : ∀ y ∈ ys, ∃ x, y = V.str x := fun y hy => by
    have z : y ∈ ns.map V.str := pm.mem_iff.mp (List.mem_append_left _ hy)
    obtain ⟨x, _, rfl⟩ := List.mem_map.mp z
    exact ⟨x, rfl⟩
  obtain ⟨known, rfl⟩ := strs_of ys yin
  have ndall : (known.map V.str ++ zs).Nodup := pm.nodup_iff.mpr (List.Pairwise.map V.str (fun a b h e => h (V.str.inj e)) B.ndn)
  have knd : known.Nodup := by
    have z := (List.nodup_append.mp ndall).1
    exact (List.pairwise_map.mp z).imp fun h e => h (congrArg V.str e)
  have ksub : ∀ x ∈ known, x ∈ ns := fun x hx => by
    have z : V.str x ∈ ns.map V.str := pm.mem_iff.mp (List.mem_append_left _ (List.mem_map_of_mem hx))
    obtain ⟨y, hy, e⟩ := List.mem_map.mp z
    exact V.str.inj e ▸ hy
  have ac := B.S.apart (Same.refl _) nc
  refine ⟨_, rfl, _, rfl, _, rfl, c, _, rfl, .inl ⟨SqL.of oc, fun tp ntp => ⟨by rw [sizeLine_eq]; show 2 ≤ _; omega, fun dl ndl => ?_⟩⟩⟩
  have k5 := same_new (o := .tup (known.map V.str)) ntp
  have k6 := same_new (o := .lst [.ref c, .ref tp]) ndl
  have atp := S5.apart (Same.refl _) ntp
  have adl := (S5.same k5).apart (Same.refl _) ndl
  have otp := k6 _ _ (upd_same (H := H5) (a := tp) (o := .tup (known.map V.str)))
  refine ⟨l, ls, dl, [.ref c, .ref tp], _, rfl, (S5.same k5).same k6, by omega, adl.1, adl.2, upd_same, by show 0 < 2; decide, by show 2 < 1000; decide, fun H6 hnd hin S6 B6 => ?_⟩
  have k56 := k5.trans k6
  have b06 : But l ls H0 H6 := (B5.trans (But.of k56)).trans B6
  have oc6 := B6 _ _ ac.1 ac.2 (k56 _ _ oc)
  have otp6 := B6 _ _ atp.1 atp.2 otp
  have Bs6 : Base H6 C l ls rr q n as ns tbl (N + 201) := B.but b06 (S6.mono (by omega))
  obtain ⟨hn, rfl, sq, h1, h2⟩ : ∃ hn, hnd = V.ref hn ∧ SqA K H6 hn (known.map V.str) ∧ hn ≠ l ∧ hn ≠ ls := by
    rcases List.mem_cons.mp hin with e | hin
    · exact ⟨c, e, .inl oc6, ac.1, ac.2⟩
    · exact ⟨tp, List.mem_singleton.mp hin, .inr otp6, atp.1, atp.2⟩
  have Kn : Known K H6 l ls c hn ns known := ⟨.inl oc6, ac.1, ac.2, sq, h1, h2, knd, ksub⟩
  refine ⟨_, rfl, _, rfl, _, rfl, rr, c, as, ns, known, x, tbl, rfl, Bs6.told Kn, xin, fun H7 k7 => ?_⟩
  have Bs7 := Bs6.same k7
  have Kn7 := Kn.same k7
  obtain ⟨dx, qa, ra, ha, _⟩ := id Bs7.t.ex
  refine ⟨_, rfl, q, dx, _, rfl, ha, rfl, _, rfl, _, rfl, q, hn, ns, known, x, tbl, rfl, Bs7.asked Kn7, xin, fun H8 k8 => ?_⟩
  refine ⟨_, rfl, .bl (decide (Tells ns tbl known x)), rfl, .inr ⟨_, rfl⟩, fun H9 k9 => ⟨_, rfl, iteF ?_⟩⟩
  have k69 := k7.trans (k8.trans k9)
  exact fin H9 c hn known (Bs6.same k69) (Kn.same k69) (b06.trans (But.of k69))
/-- a turn over the questions -/
theorem turn_all (L : LawR P w K mg base C fIn) (hr : Room 7 (A.deeper (envOfC "law" (defScope sLaw) s.heap.objs.size f cdv))) :
    ∃ t, PSs (cxOf CX0 P w K mg base NLw "law" (defScope sLaw) f cdv A outer s H E).nox bodyA t ∧ ∀ (D : Ends) (H0 : Hp) (s0 s2 s7 s8 s9 s10 s11 s12 s13 s14 : Option V) (l ls rr q n : Addr) (as : List Addr) (ns : List Str) (tbl : List (List Int)) (N : Int) (x : Str),
      Base H0 C l ls rr q n as ns tbl N → N ≤ 700000 → x ∈ ns →
      (∀ H' s7 s8 s9 s10 s11 s12 s13 s14, Base H' C l ls rr q n as ns tbl (N + 210) → D.nx [s0, some (.ref l), s2, some (.ref rr), some (.ref q), some (.ref n), some (.str x), s7, s8, s9, s10, s11, s12, s13, s14] H') →
      t D [s0, some (.ref l), s2, some (.ref rr), some (.ref q), some (.ref n), some (.str x), s7, s8, s9, s10, s11, s12, s13, s14] H0 := by
  obtain ⟨t5, p5, r5⟩ := turn_5 (P := P) (w := w) (outer := outer) (H := H) (E := E) L hr
  obtain ⟨t4, p4, r4⟩ := turn_4 (P := P) (w := w) (outer := outer) (H := H) (E := E) L hr
  obtain ⟨t3, p3, r3⟩ := turn_3 (P := P) (w := w) (outer := outer) (H := H) (E := E) L hr (pss_cons p4 (pss_one p5))
  obtain ⟨t2, p2, r2⟩ := turn_2 (P := P) (w := w) (outer := outer) (H := H) (E := E) L hr p3
  obtain ⟨t1, p1, r1⟩ := turn_1 (P := P) (w := w) (outer := outer) (H := H) (E := E) L hr p2
  refine ⟨t1, p1, ?_⟩
  intro D H0 s0 s2 s7 s8 s9 s10 s11 s12 s13 s14 l ls rr q n as ns tbl N x B hN xin fin
  refine r1 D H0 s0 s2 s7 s8 s9 s10 s11 s12 s13 s14 l ls rr q n as ns tbl N x B hN xin fun H1 c hn known B1 K1 b1 => ?_
  refine r2 D H1 s0 s2 s10 s11 s12 s13 s14 l ls rr q n c hn as ns known tbl (N + 201) x B1 K1 xin fun H2 y z B2 K2 pp s2' => ?_
  refine r3 D H2 s0 s2 s12 s13 s14 l ls rr q n c hn as ns known tbl (N + 201) x y z B2 K2 xin pp fun H3 dl fs B3 K3 pp3 LL yd => ?_
  refine r4 _ H3 s0 s2 _ _ s13 s14 l ls rr q n c hn as ns known tbl (N + 201) x y z B3 (by omega) K3 xin pp3 fun H4 s13 s14 B4 b4 => ?_
  refine r5 D H4 s0 s2 s13 s14 l ls rr q n c hn dl as ns known tbl (N + 201 + 2) x y z fs B4 (K3.but b4) xin (pp3.but B3.S b4) (LL.but B3.S b4) yd fun H5 B5 _ => ?_
  exact fin H5 _ _ _ _ _ _ _ _ (B5.mono (by omega))
theorem ok_law (F : Fun K "law" "law" sLaw f fd) (L : LawR P w K mg base C fIn) : FnOk P w K mg base CX0 8 f fd ["script"] (spLawT K) := by
  obtain ⟨fS, fdS, gS, FS⟩ := L.start
  have GS : FnOk P w K mg base CX0 1 fS fdS ["script"] (spStart K) := ok_start FS L.M.nL
  have bS := FS.binds (ps := ["script"]) fun _ _ _ _ _ _ us hl => match us, hl with | [_], _ => rfl
  obtain ⟨fR, fdR, gR, FR, GR⟩ := L.rows
  have bR := FR.binds (ps := ["stream", "many", "rows", "values"]) fun _ _ _ _ _ _ us hl => match us, hl with | [_, _, _, _], _ => rfl
  obtain ⟨fT, fdT, gT, FT, GT⟩ := L.turned
  have bT := FT.binds (ps := ["stream", "rows"]) fun _ _ _ _ _ _ us hl => match us, hl with | [_, _], _ => rfl
  obtain ⟨fdI, FI, GI⟩ := L.init
  have bI := FI.binds (ps := ["self", "rows"]) fun _ _ _ _ _ _ us hl => match us, hl with | [_, _], _ => rfl
  refine F.ok scLaw (fun vs H Q E h => by obtain ⟨a, ns, e, _⟩ := h; rw [e]; rfl) fun cdv A outer s H vs Q E hr hsp => ?_
  obtain ⟨a, cs, rfl, hS, hn, hq⟩ := hsp
  have nd := scLaw.nd
  obtain ⟨tA, pA, rA⟩ := turn_all (P := P) (w := w) (outer := outer) (H := H) (E := E) L hr
  refine ⟨_, pss_cons (ps_set (i := 1) nd rfl (Or.inl rfl) (pe_call GS (hr.mono (by decide)) rfl gS FS.kp bS .nil pass0 (pa_cons (pv 0) pa_nil)))
    (pss_cons (ps_for PassesOwn.never rfl (pi_range1 rfl L.nR (pa_cons pe_int pa_nil)) (pg_name (i := 2) nd rfl (Or.inl rfl))
      (pss_cons (ps_set (i := 3) nd rfl (Or.inl rfl) (pe_call GR (hr.mono (by decide)) rfl gR FR.kp bR .nil pass0 (pa_cons (pv 1) (pa_cons pe_int (pa_cons pe_int (pa_cons pe_int pa_nil))))))
      (pss_cons (ps_par (i := 4) (j := 5) rfl nd rfl rfl (by decide) rfl rfl (pa_cons (pe_make L.made GI (hr.mono (by decide)) rfl L.gC bI .nil pass0 (pa_cons (pe_call GT (hr.mono (by decide)) rfl gT FT.kp bT .nil pass0 (pa_cons (pv 1) (pa_cons (pv 3) pa_nil))) pa_nil)) (pa_cons (pe_callTy (call_listD rfl) rfl L.M.nL boot_list' (pa_cons (pe_ix ix_list (pv 3) pe_int (fun _ _ => rfl)) pa_nil)) pa_nil)) (by rfl))
      (pss_one (ps_for PassesOwn.never rfl (pi_list (pv 5)) (pg_name (i := 6) nd rfl (Or.inl rfl)) pA)))))
    (pss_one (ps_ret pe_bl))), ?_⟩
  refine ⟨_, rfl, a, cs, rfl, hS, by omega, fun H1 l ls nl k1 S1 nls => ?_⟩
  refine ⟨5, rfl, by decide, by decide, for_range (n := 5) (fun i σ H' => Strm H' l ls (4000 * (i : Int)) ∧ ∃ s2 s3 s4 s5 s6 s7 s8 s9 s10 s11 s12 s13 s14, σ = [some (.ref a), some (.ref l), s2, s3, s4, s5, s6, s7, s8, s9, s10, s11, s12, s13, s14])
    ⟨by simpa using S1, _, _, _, _, _, _, _, _, _, _, _, _, _, rfl⟩ ?_ ?_⟩
  · rintro i σ H2 hi ⟨S2, s2, s3, s4, s5, s6, s7, s8, s9, s10, s11, s12, s13, s14, rfl⟩
    refine ⟨_, rfl, l, ls, 4, 7, 3, 4000 * (i : Int), rfl, S2, by omega, by decide, by decide, by decide, by decide, by decide, by decide, fun H3 rr as ns tbl lns nn nnd nms ltbl tn bd nrr rl rls orr R S3 B3 => ?_⟩
    have nok : ∀ x ∈ ns, NmOk x := fun x hx => (nms x hx).1
    refine ⟨_, rfl, _, rfl, l, ls, rr, as, ns, tbl, 4000 * (i : Int) + 1000, rfl, S3, by omega, orr, rl, rls, R, ⟨nnd, nn, nok, lns, by omega, tn⟩, ltbl, fun H4 qh hs nqh qhl qhls oqh G4 hd4 _ S4 B4 => ?_⟩
    refine fun x dx nx ndx nex => ?_
    have kx : Same H4 (upd (upd H4 dx (.own x)) x (.ins C dx [])) := fun b o e => by rw [upd_ne (ne_of_none e nx), upd_ne (ne_of_none e ndx)]; exact e
    refine ⟨x, dx, qh, hs, ns, tbl, rfl, upd_same, .inl (kx _ _ oqh), G4.rows.same kx, hd4.same kx, tn, by omega, nn, nnd, nok, by omega, fun H5 tab fr => ⟨rfl, ?_⟩⟩
    have k45 : Same H4 H5 := fun b o e => fr b o (ne_of_none e nx) (kx _ _ e)
    have B35 : But l ls H3 H5 := B4.trans (But.of k45)
    have R5 := R.but B35
    have orr5 := B35 _ _ rl rls orr
    have pos : 0 < tbl.length := List.length_pos_iff.mpr tn
    have las : as.length = tbl.length := Paired.length R
    obtain ⟨a0, ea0⟩ : ∃ a0, as[0]? = some a0 := ⟨as[0]'(by omega), List.getElem?_eq_getElem _⟩
    obtain ⟨vs0, ev0, oa0, lv0, _⟩ := paired_get R5 ea0
    have at0' : atI (as.map V.ref) ((0 : Nat) : Int) = some (.ref a0) := atI_nat (by rw [List.getElem?_map, ea0]; rfl)
    have ekeys : ((dk ns vs0).map fun kv => kV kv.1) = ns.map V.str := by
      have z := congrArg (List.map kV) (dk_keys lv0.symm)
      rw [List.map_map, List.map_map] at z
      exact z
    refine ⟨_, rfl, _, _, _, _, rfl, rfl, SqL.of orr5, at0', a0, _, rfl, .inl oa0, fun n nn1 => ?_⟩
    rw [ekeys]
    have k6 := same_new (o := .lst (ns.map V.str)) nn1
    have on6 := upd_same (H := H5) (a := n) (o := .lst (ns.map V.str))
    have S5 := S4.same k45
    have an := S5.apart (Same.refl _) nn1
    have S6 := S5.same k6
    have B36 := B35.trans (But.of k6)
    have tab6 := tab.same k6
    generalize upd H5 n (.lst (ns.map V.str)) = H6 at k6 on6 S6 B36 tab6
    refine ⟨_, _, rfl, ?_⟩
    have Bs : Base H6 C l ls rr x n as ns tbl (4000 * (i : Int) + 1000 + 250) := ⟨S6, B36 _ _ rl rls orr, rl, rls, R.but B36, tab6, on6, an.1, an.2, nnd, nn, nms, lns, ltbl, tn, bd⟩
    refine ⟨_, rfl, n, rfl, ⟨_, SqL.of on6⟩, for_list (xs := ns.map V.str) (fun j σ H' => Base H' C l ls rr x n as ns tbl (4000 * (i : Int) + 1250 + 210 * j) ∧ ∃ s2 s6 s7 s8 s9 s10 s11 s12 s13 s14, σ = [some (.ref a), some (.ref l), s2, some (.ref rr), some (.ref x), some (.ref n), s6, s7, s8, s9, s10, s11, s12, s13, s14])
      ⟨Bs.mono (by omega), _, _, _, _, _, _, _, _, _, _, rfl⟩ (fun j σ H' _ h => SqL.of h.1.on) ?_ ?_⟩
    · rintro j v σ H7 ev ⟨B7, s2, s6, s7, s8, s9, s10, s11, s12, s13, s14, rfl⟩
      rw [List.getElem?_map] at ev
      obtain ⟨y, ey, rfl⟩ := Option.map_eq_some_iff.mp ev
      have hj : j < ns.length := (List.getElem?_eq_some_iff.mp ey).1
      refine rA _ H7 _ _ s7 s8 s9 s10 s11 s12 s13 s14 l ls rr x n as ns tbl _ y B7 (by omega) (List.mem_of_getElem? ey) fun H8 s7 s8 s9 s10 s11 s12 s13 s14 B8 => ?_
      exact ⟨B8.mono (by omega), _, _, _, _, _, _, _, _, _, _, rfl⟩
    · rintro σ H7 ⟨B7, s2, s6, s7, s8, s9, s10, s11, s12, s13, s14, rfl⟩
      have ln : (ns.map V.str).length ≤ 10 := by rw [List.length_map]; exact lns
      exact ⟨B7.S.mono (by omega), _, _, _, _, _, _, _, _, _, _, _, _, _, rfl⟩
  · rintro σ H2 ⟨S2, s2, s3, s4, s5, s6, s7, s8, s9, s10, s11, s12, s13, s14, rfl⟩
    exact hq H2
end
end L2.TB
namespace L2.TB
open PySem PySem.Spec PyProof.Rows
section
variable {P : Program} {w : World} {K : PySem.W.Frag} {mg : Str → Option Value} {base : Heap} {f fM : Addr} {fd fdM : FuncData}
theorem ok_turned (F : Fun K "_law_t_turned_rows" "_law_t_turned_rows" sTurned f fd) (GM : FnOk P w K mg base CX0 2 fM fdM ["stream", "some"] (spMixed K)) (FM : Fun K "_law_mixed" "_law_mixed" sMixed fM fdM) (gM : mg "_law_mixed" = some (.ref fM)) (gD : mg "dict" = none) (gL : mg "list" = none) : FnOk P w K mg base CX0 3 f fd ["stream", "rows"] spTurned := by
  have bM := FM.binds (ps := ["stream", "some"]) fun _ _ _ _ _ _ us hl => match us, hl with | [_, _], _ => rfl
  refine F.ok scTurned (fun vs H Q E h => by obtain ⟨l, ls, r, as, ns, tbl, N, e, _⟩ := h; rw [e]; rfl) fun cdv A outer s H vs Q E hr hsp => ?_
  obtain ⟨l, ls, r, as, ns, tbl, N, rfl, hS, hN, orr, rl, rls, R, W, few, hq⟩ := hsp
  have nd := scTurned.nd
  have hu := hu_of hr
  have w1 := W.l1
  have D0 : DRows H ns as tbl := Paired.mapP R fun a vs h => ⟨h.1, h.2.1⟩
  have las : as.length = tbl.length := Paired.length D0
  have pos : 0 < tbl.length := List.length_pos_iff.mpr W.t
  refine ⟨_, pss_cons (ps_set (i := 2) nd rfl (Or.inl rfl) (pe_lst (pa_cons (pe_callTy call_dictD rfl gD boot_dict' (pa_cons (pe_ix ix_list (pv 1) pe_int (fun _ _ => rfl)) pa_nil)) pa_nil)))
    (pss_cons (ps_for PassesOwn.never rfl (pi_list (pe_slice sl_list (pv 1) (po_some pe_int) po_none)) (pg_name (i := 3) nd rfl (Or.inr rfl))
      (pss_one (ps_expr (pe_bm PySem.F.plainAttrs_list PySem.F.slot_list_append PySem.F.type_list_append mt_append (pv 2) (pa_cons (pe_callTy (call_dictP rfl) rfl gD (by decide +kernel) (pa_cons (pe_lc (own := [("name", 4)]) (tt := tYes) rfl nd
          (pi_list (pe_call GM (hr.mono (by decide)) rfl gM FM.kp bM .nil pass0 (pa_cons (pv 0) (pa_cons (pe_callTy (call_listD rfl) rfl gL boot_list' (pa_cons (pv 3) pa_nil)) pa_nil)))) (blkOk_by (N := NTu) (sc := defScope sTurned) (by decide +kernel))
          (fun _ _ _ _ _ => pg_name (i := 4) nd rfl (Or.inl rfl)) (fun _ _ _ _ _ => pts_nil) (fun _ _ _ _ _ => pe_tup (pa_cons (pv 4) (pa_cons (pe_dget hu (pv 3) (pv 4) (fun _ _ => rfl)) pa_nil)))) pa_nil)) pa_nil)))))
    (pss_one (ps_ret (pv 2)))), ?_⟩
  obtain ⟨a0, ea0⟩ : ∃ a0, as[0]? = some a0 := ⟨as[0]'(by omega), List.getElem?_eq_getElem _⟩
  obtain ⟨us0, eu0, oa0, lu0⟩ := paired_get D0 ea0
  have at0' : atI (as.map V.ref) ((0 : Nat) : Int) = some (.ref a0) := atI_nat (by rw [List.getElem?_map, ea0]; rfl)
  refine ⟨_, rfl, _, _, _, _, rfl, rfl, SqL.of orr, at0', a0, _, rfl, .inl oa0, fun d0 nd0 => ?_⟩
  have k0 := same_new (o := .dK (dk ns us0)) nd0
  have od0 : upd H d0 (.dK (dk ns us0)) d0 = some (.dK (dk ns us0)) := upd_same
  have ad0 := hS.apart (Same.refl _) nd0
  generalize upd H d0 (.dK (dk ns us0)) = H1 at k0 od0
  refine ⟨by show 1 ≤ sizeLine; decide, fun q nq => ?_⟩
  have kq := same_new (o := .lst [.ref d0]) nq
  have S1 := hS.same k0
  have aq := S1.apart (Same.refl _) nq
  have oq : upd H1 q (.lst [.ref d0]) q = some (.lst (([d0] : List Addr).map V.ref)) := upd_same
  have od1 := kq _ _ od0
  have k1 := k0.trans kq
  have nqH : H q = none := k0.free nq
  generalize upd H1 q (.lst [.ref d0]) = H2 at kq oq od1 k1
  refine ⟨_, rfl, (1 : Int), rfl, ?_⟩
  refine ⟨r, as.map V.ref, rfl, SqL.of (k1 _ _ orr), fun p np => ?_⟩
  rw [show (some (1 : Int)) = some ((1 : Nat) : Int) from rfl, cut_from _ _ (by rw [List.length_map]; omega), ← List.map_drop]
  have kp := same_new (o := .lst ((as.drop 1).map V.ref)) np
  have ap := (hS.same k1).apart (Same.refl _) np
  have op : upd H2 p (.lst ((as.drop 1).map V.ref)) p = some (.lst ((as.drop 1).map V.ref)) := upd_same
  have oq3 := kp _ _ oq
  have od3 := kp _ _ od1
  have k3 := k1.trans kp
  have pq : p ≠ q := fun z => by rw [z, oq] at np; cases np
  generalize upd H2 p (.lst ((as.drop 1).map V.ref)) = H3 at op oq3 od3 k3
  have B3 : But l ls H H3 := But.of k3
  refine ⟨p, rfl, ⟨_, SqL.of op⟩, for_list (xs := (as.drop 1).map V.ref) (fun i σ H' => (∃ hs, H' q = some (.lst ((hs : List Addr).map V.ref)) ∧ GRowsA H' l ls ns hs (tbl.take (i + 1)) ∧ (∀ t ∈ hs, H t = none) ∧ HeadD H' ns hs ∧ hs ≠ []) ∧ H' p = some (.lst ((as.drop 1).map V.ref)) ∧ Strm H' l ls (N + 10 * i) ∧ But l ls H H' ∧
      ∃ s3 s4, σ = [some (.ref l), some (.ref r), some (.ref q), s3, s4])
    ⟨⟨[d0], oq3, ?_, ?_, ?_, by simp⟩, op, by simpa using hS.same k3, B3, _, _, rfl⟩ (fun i σ H' _ h => SqL.of h.2.1) ?_ ?_⟩
  · have e1 : tbl.take (0 + 1) = [us0] := by
      rw [List.take_succ, eu0]
      rfl
    rw [e1]
    exact .cons ⟨⟨_, od3, rowD_dk W.nd lu0⟩, ad0⟩ .nil
  · intro t ht
    rw [List.mem_singleton.mp ht]
    exact nd0
  · intro a e
    cases e
    exact ⟨_, od3, dk_keys lu0.symm⟩
  · rintro i v σ H4 ev ⟨⟨hs, oq4, G4, fr4, hd4, hne⟩, op4, S4, B4, s3, s4, rfl⟩
    rw [List.getElem?_map, List.getElem?_drop] at ev
    obtain ⟨a, ea, rfl⟩ := Option.map_eq_some_iff.mp ev
    obtain ⟨us, eu, oa, lu, al, als⟩ := paired_get (R.but B4) ea
    have hi : 1 + i < tbl.length := (List.getElem?_eq_some_iff.mp eu).1
    have hi2 : (i : Int) < 20 := by omega
    have ekeys : ((dk ns us).map fun kv => kV kv.1) = ns.map V.str := by
      have z := congrArg (List.map kV) (dk_keys lu.symm)
      rw [List.map_map, List.map_map] at z
      exact z
    refine ⟨_, rfl, .inl ⟨rfl, _, SqL.of oq4⟩, _, rfl, _, rfl, a, _, rfl, .inl oa, fun c nc => ?_⟩
    rw [ekeys]
    have kc := same_new (o := .lst (ns.map V.str)) nc
    have oc : upd H4 c (.lst (ns.map V.str)) c = some (.lst (ns.map V.str)) := upd_same
    have S5 := S4.same kc
    have B5 := B4.trans (But.of kc)
    have oq5 := kc _ _ oq4
    have op5 := kc _ _ op4
    have oa5 := kc _ _ oa
    have G5 := G4.but (But.of kc)
    have hd5 := hd4.same kc
    generalize upd H4 c (.lst (ns.map V.str)) = H5 at oc S5 B5 oq5 op5 oa5 G5 hd5
    refine ⟨l, ls, c, ns.map V.str, _, rfl, S5, by omega, SqL.of oc, by rw [List.length_map]; omega, fun H6 m ys pm nm om S6 B6 => ?_⟩
    have yin : ∀ y ∈ ys, ∃ x, y = V.str x := fun y hy => by
      have z : y ∈ ns.map V.str := pm.mem_iff.mp hy
      obtain ⟨x, _, rfl⟩ := List.mem_map.mp z
      exact ⟨x, rfl⟩
    obtain ⟨known, rfl⟩ := strs_of ys yin
    have knd : known.Nodup := by
      have z : (known.map V.str).Nodup := pm.nodup_iff.mpr (List.Pairwise.map V.str (fun a b h e => h (V.str.inj e)) W.nd)
      exact (List.pairwise_map.mp z).imp fun h e => h (congrArg V.str e)
    have kin : ∀ x, x ∈ known ↔ x ∈ ns := fun x => by
      have z : V.str x ∈ known.map V.str ↔ V.str x ∈ ns.map V.str := pm.mem_iff
      constructor
      · intro h
        obtain ⟨y, hy, e⟩ := List.mem_map.mp (z.mp (List.mem_map_of_mem h))
        exact V.str.inj e ▸ hy
      · intro h
        obtain ⟨y, hy, e⟩ := List.mem_map.mp (z.mpr (List.mem_map_of_mem h))
        exact V.str.inj e ▸ hy
    have kpm : known.Perm ns := (List.perm_ext_iff_of_nodup knd W.nd).mpr kin
    have kl : known.length = ns.length := kpm.length_eq
    have oa6 := B6 _ _ al als oa5
    refine ⟨m, rfl, ⟨_, SqL.of om⟩, given_lc (K := K) ns known us (by omega) (fun j H' s lt => ⟨_, _, SqL.of (s _ _ om), List.getElem?_eq_getElem (by rw [List.length_map]; exact lt)⟩) (fun H' s => ⟨_, SqL.of (s _ _ om), by rw [List.length_map]; omega⟩) ?_ ?_⟩
    · rintro j v y H7 H8 Cn Nn ey s7 ⟨rfl, ev⟩ yes
      have ev := ev _ (SqL.of (s7 _ _ om))
      rw [List.getElem?_map, ey] at ev
      obtain rfl : V.str y = v := Option.some.inj ev
      refine ⟨rfl, ?_⟩
      refine ⟨_, rfl, _, rfl, _, rfl, a, _, rfl, dk_av W.nd lu ((kin y).mp (List.mem_of_getElem? ey)) ▸ DGet.k (k := Sum.inr y) (s7 _ _ oa6), (by rw [sizeLine_eq]; show 2 ≤ _; omega), fun t nt => ?_⟩
      exact yes t _ upd_same (same_new nt)
    · intro H7 D1 ps nD1 oD1 pr k7
      refine ⟨D1, ps, _, rfl, SqL.of oD1, pr, fun g ng => ?_⟩
      rw [gvn_merge knd]
      have kg := same_new (o := .dK (gvn ns known us)) ng
      have og : upd H7 g (.dK (gvn ns known us)) g = some (.dK (gvn ns known us)) := upd_same
      have k67 := k7.trans kg
      have S8 := (S6.same k67)
      have ag := (S6.same k7).apart (Same.refl _) ng
      have B8 := (B5.trans B6).trans (But.of k67)
      have oq8 := k67 _ _ (B6 _ _ aq.1 aq.2 oq5)
      have op8 := k67 _ _ (B6 _ _ ap.1 ap.2 op5)
      have G8 := G5.but (B6.trans (But.of k67))
      have hd8 : HeadD (upd H7 g (.dK (gvn ns known us))) ns hs := fun b e => by
        obtain ⟨kv, o, kk⟩ := hd5 b e
        have bl : b ≠ l ∧ b ≠ ls := by
          obtain ⟨u, _, _, h2⟩ := paired_get G5 e
          exact h2
        exact ⟨kv, k67 _ _ (B6 _ _ bl.1 bl.2 o), kk⟩
      have gq : g ≠ q := ne_of og oq8 (by intro z; cases z)
      have gfree : H g = none := by
        cases e : H g with
        | none => rfl
        | some o =>
          have z := ((B5.trans B6).trans (But.of k7)) _ _ ag.1 ag.2 e
          rw [ng] at z; cases z
      generalize upd H7 g (.dK (gvn ns known us)) = H8 at og k67 S8 B8 oq8 op8 G8 hd8
      have lh : hs.length = i + 1 := by rw [Paired.length G8, List.length_take]; omega
      refine ⟨q, hs.map V.ref, .ref g, rfl, rfl, oq8, (by rw [sizeLine_eq, List.length_map]; omega), ⟨hs ++ [g], by rw [upd_same]; simp, ?_, ?_, ?_, by simp⟩, ?_, ?_, ?_, _, _, rfl⟩
      · have et : tbl.take (i + 1 + 1) = tbl.take (i + 1) ++ [us] := by rw [List.take_succ, show tbl[i + 1]? = some us from by rw [← eu, Nat.add_comm]]; rfl
        rw [et]
        refine paired_snoc ⟨⟨_, by rw [upd_ne gq]; exact og, gvn_rowD kpm W.nd lu⟩, ag⟩ (Paired.mapP G8 fun b vs h => ?_)
        obtain ⟨⟨kv, e, rd⟩, h2⟩ := h
        exact ⟨⟨kv, by rw [upd_ne (ne_of e oq8 (by intro z; cases z))]; exact e, rd⟩, h2⟩
      · intro t ht
        rcases List.mem_append.mp ht with h | h
        · exact fr4 t h
        · rw [List.mem_singleton.mp h]; exact gfree
      · intro b e
        obtain ⟨h0, hr', rfl⟩ := List.exists_cons_of_ne_nil hne
        obtain rfl : h0 = b := Option.some.inj e
        obtain ⟨kv, o, kk⟩ := hd8 h0 rfl
        exact ⟨kv, by rw [upd_ne (ne_of o oq8 (by intro z; cases z))]; exact o, kk⟩
      · rw [upd_ne pq]; exact op8
      · obtain ⟨cs', g', k, m', S⟩ := S8
        exact Strm.mono ⟨cs', g', k, m', by rw [upd_ne (Ne.symm aq.1)]; exact S.o, by rw [upd_ne (Ne.symm aq.2)]; exact S.c, S.ne, S.g0, S.k0, S.k1, S.m0, S.m1, S.sz⟩ (by rw [List.length_map]; omega)
      · intro b' o h1 h2 e
        rw [upd_ne (ne_of_none e nqH)]
        exact B8 _ _ h1 h2 e
  · rintro σ H4 ⟨⟨hs, oq4, G4, fr4, hd4, hne⟩, op4, S4, B4, s3, s4, rfl⟩
    have et : tbl.take (((as.drop 1).map V.ref).length + 1) = tbl := List.take_of_length_le (by rw [List.length_map, List.length_drop]; omega)
    rw [et] at G4
    have ll : ((as.drop 1).map V.ref).length ≤ 20 := by rw [List.length_map, List.length_drop]; omega
    exact ⟨_, rfl, hq H4 q hs nqH aq.1 aq.2 oq4 G4 hd4 fr4 (S4.mono (by omega)) B4⟩
end
end L2.TB
namespace L2.TB
open PySem PySem.Spec PyProof.Rows
open LamX MK
section
variable {K : PySem.W.Frag} {h : Heap} {mg : Str → Option Value}
theorem fun_ofD {x q : Str} {st : Stmt} {f : Addr} {fd : FuncData} (F : FunD K x q (defArgs st) (defBody st) (defScope st) [] [] f fd) : Fun K x q st f fd := by
  obtain ⟨⟨oc, od, dV, kV, doc, pm, an, cdv, ct, osl, e, lk, hc, hd, hk⟩, kp⟩ := F
  obtain rfl : dV = .none := hd.elim (fun z => z.2) fun z => absurd rfl z.1
  exact ⟨⟨oc, od, kV, doc, pm, an, cdv, ct, osl, e, lk, hc⟩, kp⟩
theorem def_at (c : He.SaysD faT fnT K) (X : K.In h) (G : h.Ns mainGlobals mg) (i k : Nat) {x : Str} {st : Stmt} (ei : faT[i]? = some (.glo x)) (ek : fnT[k]? = some (dd (x, none) x x st [])) :
    mg x = some (.ref (He.ga K x)) ∧ ∃ fd, Fun K x x st (He.ga K x) fd := by
  obtain ⟨fd, F⟩ := c.def_ k ek
  exact ⟨He.glo_ok X G (c.fact i ei), fd, fun_ofD F⟩
theorem meth_at (c : He.SaysD faT fnT K) (i k : Nat) {m q : Str} {st : Stmt} (ei : faT[i]? = some (.meth "Table" m)) (ek : fnT[k]? = some (dd ("Table", some m) m q st [])) :
    Meth K (He.ga K "Table") m (He.ma K (He.ga K "Table") m) ∧ ∃ fd, Fun K m q st (He.ma K (He.ga K "Table") m) fd := by
  obtain ⟨fd, F⟩ := c.def_ k ek
  exact ⟨He.meth_ok (c.fact i ei), fd, fun_ofD F⟩
end
theorem facts {P : Program} {w : World} {K : PySem.W.Frag} {h : Heap} {mg : Str → Option Value} {f : Addr} (X : K.In h) (G : h.Ns mainGlobals mg) (hfa : mg ("law" : Str) = some (.ref f)) (cc : SaysK h K) :
    ∃ fd : FuncData, (∀ (s : Shared) (v : Value), BindsTo s fd ⟨[v], []⟩ [("script", v)]) ∧ ∀ base : Heap, K.In base → base.Ns mainGlobals mg → (∀ p ∈ csL K, TabB base mg p.1 p.2) → FnOk P w K mg base CX0 8 f fd ["script"] (spLawT K) := by
  have c := cc.d
  obtain ⟨gStart, dStart, FStart⟩ := def_at c X G 0 0 (x := "_law_start") (st := sStart) rfl rfl
  obtain ⟨gDraw, dDraw, FDraw⟩ := def_at c X G 1 1 (x := "_law_draw") (st := sDraw) rfl rfl
  obtain ⟨gPick, dPick, FPick⟩ := def_at c X G 2 2 (x := "_law_pick") (st := sPick) rfl rfl
  obtain ⟨gMixed, dMixed, FMixed⟩ := def_at c X G 3 3 (x := "_law_mixed") (st := sMixed) rfl rfl
  obtain ⟨gSome, dSome, FSome⟩ := def_at c X G 4 4 (x := "_law_t_some") (st := sSome) rfl rfl
  obtain ⟨gNames, dNames, FNames⟩ := def_at c X G 5 5 (x := "_law_t_names") (st := sNames) rfl rfl
  obtain ⟨gRows, dRows, FRows⟩ := def_at c X G 6 6 (x := "_law_t_rows") (st := sRows) rfl rfl
  obtain ⟨gTurned, dTurned, FTurned⟩ := def_at c X G 7 7 (x := "_law_t_turned_rows") (st := sTurned) rfl rfl
  obtain ⟨gKey, dKey, FKey⟩ := def_at c X G 8 8 (x := "_law_t_key") (st := sKey) rfl rfl
  obtain ⟨gTells, dTells, FTells⟩ := def_at c X G 9 9 (x := "_law_t_tells") (st := sTells) rfl rfl
  obtain ⟨gSame, dSame, FSame⟩ := def_at c X G 10 10 (x := "_law_same") (st := sSame) rfl rfl
  obtain ⟨gLot, dLot, FLot⟩ := def_at c X G 11 11 (x := "_law_lot") (st := sLot) rfl rfl
  obtain ⟨gBentP, dBentP, FBentP⟩ := def_at c X G 12 12 (x := "_law_bent_plans") (st := sBentP) rfl rfl
  obtain ⟨gBentW, dBentW, FBentW⟩ := def_at c X G 13 13 (x := "_law_bent_worlds") (st := sBentW) rfl rfl
  obtain ⟨gLawAp, dLawAp, FLawAp⟩ := def_at c X G 14 14 (x := "_law_are_apart") (st := sLawAp) rfl rfl
  obtain ⟨gPlanR, dPlanR, FPlanR⟩ := def_at c X G 15 15 (x := "_law_plan_right") (st := sPlanR) rfl rfl
  obtain ⟨gLaw, dLaw, FLaw⟩ := def_at c X G 16 16 (x := "law") (st := sLaw) rfl rfl
  obtain ⟨gIsInt, dIsInt, FIsInt⟩ := def_at c X G 17 17 (x := "is_integer") (st := sIsInt) rfl rfl
  obtain ⟨gIsList, dIsList, FIsList⟩ := def_at c X G 18 18 (x := "is_list") (st := sIsList) rfl rfl
  obtain ⟨gIsPair, dIsPair, FIsPair⟩ := def_at c X G 19 19 (x := "is_pair") (st := sIsPair) rfl rfl
  obtain ⟨gIsName, dIsName, FIsName⟩ := def_at c X G 20 20 (x := "is_name") (st := sIsName) rfl rfl
  obtain ⟨gIsOne, dIsOne, FIsOne⟩ := def_at c X G 21 21 (x := "is_one_of") (st := sIsOne) rfl rfl
  obtain ⟨gHasJust, dHasJust, FHasJust⟩ := def_at c X G 22 22 (x := "has_just") (st := sHasJust) rfl rfl
  obtain ⟨gIsParted, dIsParted, FIsParted⟩ := def_at c X G 23 23 (x := "is_parted") (st := sIsParted) rfl rfl
  obtain ⟨gFirst, dFirst, FFirst⟩ := def_at c X G 24 24 (x := "first_bad") (st := sFirst) rfl rfl
  obtain ⟨gCkK, dCkK, FCkK⟩ := def_at c X G 25 25 (x := "check_known") (st := sCkK) rfl rfl
  obtain ⟨gCkA, dCkA, FCkA⟩ := def_at c X G 26 26 (x := "check_asked") (st := sCkA) rfl rfl
  obtain ⟨gCkB, dCkB, FCkB⟩ := def_at c X G 27 27 (x := "check_both") (st := sCkB) rfl rfl
  obtain ⟨gCkLack, dCkLack, FCkLack⟩ := def_at c X G 28 28 (x := "check_lacking") (st := sCkLack) rfl rfl
  obtain ⟨gAreInts, dAreInts, FAreInts⟩ := def_at c X G 29 29 (x := "_are_integers") (st := sAreInts) rfl rfl
  obtain ⟨gBadRow, dBadRow, FBadRow⟩ := def_at c X G 30 30 (x := "_first_bad_row") (st := sBadRow) rfl rfl
  obtain ⟨mInit, dInit, FInit⟩ := meth_at c 62 31 (m := "__init__") (q := "Table.__init__") (st := sInit) rfl rfl
  obtain ⟨mQs, dQs, FQs⟩ := meth_at c 50 32 (m := "questions") (q := "Table.questions") (st := sQs) rfl rfl
  obtain ⟨mDictOf, dDictOf, FDictOf⟩ := meth_at c 51 33 (m := "_dict_of") (q := "Table._dict_of") (st := sDictOf) rfl rfl
  obtain ⟨mIsTold, dIsTold, FIsTold⟩ := meth_at c 52 34 (m := "is_told") (q := "Table.is_told") (st := sIsTold) rfl rfl
  obtain ⟨mPlan, dPlan, FPlan⟩ := meth_at c 53 35 (m := "plan") (q := "Table.plan") (st := sPlan) rfl rfl
  obtain ⟨mIsPlan, dIsPlan, FIsPlan⟩ := meth_at c 54 36 (m := "is_plan") (q := "Table.is_plan") (st := sIsPlan) rfl rfl
  obtain ⟨mFound, dFound, FFound⟩ := meth_at c 55 37 (m := "found") (q := "Table.found") (st := sFound) rfl rfl
  obtain ⟨mApart, dApart, FApart⟩ := meth_at c 56 38 (m := "apart") (q := "Table.apart") (st := sApart) rfl rfl
  obtain ⟨mAreAp, dAreAp, FAreAp⟩ := meth_at c 57 39 (m := "are_apart") (q := "Table.are_apart") (st := sAreAp) rfl rfl
  obtain ⟨mIsWorld, dIsWorld, FIsWorld⟩ := meth_at c 58 40 (m := "_is_world") (q := "Table._is_world") (st := sIsWorld) rfl rfl
  obtain ⟨mPlaces, dPlaces, FPlaces⟩ := meth_at c 59 41 (m := "_places") (q := "Table._places") (st := sPlaces) rfl rfl
  obtain ⟨mParting, dParting, FParting⟩ := meth_at c 60 42 (m := "_parting_rows") (q := "Table._parting_rows") (st := sParting) rfl rfl
  obtain ⟨mPlanOf, dPlanOf, FPlanOf⟩ := meth_at c 61 43 (m := "_plan_of") (q := "Table._plan_of") (st := sPlanOf) rfl rfl
  have n_list : mg "list" = none := He.free_ok X G (c.fact 32 rfl)
  have n_len : mg "len" = none := He.free_ok X G (c.fact 33 rfl)
  have n_int : mg "int" = none := He.free_ok X G (c.fact 34 rfl)
  have n_range : mg "range" = none := He.free_ok X G (c.fact 35 rfl)
  have n_dict : mg "dict" = none := He.free_ok X G (c.fact 36 rfl)
  have n_tuple : mg "tuple" = none := He.free_ok X G (c.fact 37 rfl)
  have n_str : mg "str" = none := He.free_ok X G (c.fact 38 rfl)
  have n_bool : mg "bool" = none := He.free_ok X G (c.fact 39 rfl)
  have n_isinstance : mg "isinstance" = none := He.free_ok X G (c.fact 40 rfl)
  have n_all : mg "all" = none := He.free_ok X G (c.fact 41 rfl)
  have n_any : mg "any" = none := He.free_ok X G (c.fact 42 rfl)
  have n_enumerate : mg "enumerate" = none := He.free_ok X G (c.fact 43 rfl)
  have n_zip : mg "zip" = none := He.free_ok X G (c.fact 44 rfl)
  have gC : mg "Table" = some (.ref (He.ga K "Table")) := He.glo_ok X G (c.fact 31 rfl)
  have gLo := He.int_ok X G (c.fact (f := .int "LONGEST" 40) 45 rfl)
  have gSg := He.str_ok X G (c.fact (f := .str "SIGNS" "abcdefghijklmnopqrstuvwxyz0123456789.") 46 rfl)
  have T0 : TabC K (He.ga K "Table") := ⟨He.cls_ok (c.fact 47 rfl), He.noat_ok (c.fact 48 rfl), He.noat_ok (c.fact 49 rfl)⟩
  have T : TabM K (He.ga K "Table") _ _ _ _ := ⟨T0, ⟨_, FQs⟩, ⟨_, FIsTold⟩, ⟨_, FPlaces⟩, ⟨_, FParting⟩, mQs, mIsTold, mPlaces, mParting⟩
  have Ck : Chk K mg _ _ _ _ _ _ := ⟨⟨_, FFirst⟩, ⟨_, FIsList⟩, ⟨_, FIsOne⟩, ⟨_, FCkK⟩, ⟨_, FCkA⟩, ⟨_, FCkB⟩, gFirst, gIsList, gIsOne, gCkK, gCkA, gCkB, n_isinstance, n_list, n_tuple, n_str, n_enumerate⟩
  have M : Sm mg := ⟨n_isinstance, n_list, n_tuple, n_int, n_bool⟩
  have Mk := He.mkr_ok (c.fact (f := .mkr "Table") 63 rfl)
  have e := hfa.symm.trans gLaw
  cases e
  obtain ⟨oc, od, kV, doc, pm, an, cdv, ct, osl, rfl, lk, hcd⟩ := FLaw.ex
  refine ⟨PySem.W.fnOf "law" "law" (defArgs sLaw) (defBody sLaw) (defScope sLaw) .none kV doc pm an cdv ct, fun s v => .of_eq rfl, fun base _ _ _ => ?_⟩
  have GB := ok_badRowG (P := P) (w := w) (base := base) FBadRow FIsList gIsList FIsInt gIsInt FIsName gIsName FHasJust gHasJust n_isinstance n_list n_tuple n_str n_enumerate n_len n_all n_dict n_int n_bool gLo gSg
  have GG := ok_initG (P := P) (w := w) (base := base) FInit T0 GB FBadRow gBadRow n_list n_tuple
  have GP := ok_pick (P := P) (w := w) (mg := mg) (base := base) FPick FDraw gDraw n_int n_len
  have GMi := ok_mixed (P := P) (w := w) (mg := mg) (base := base) FMixed FDraw gDraw n_int n_len n_list n_range
  have GSo := ok_some (P := P) (w := w) (base := base) FSome FMixed gMixed FDraw gDraw n_int n_len n_list n_range
  have GII : FnOk P w K mg base CX0 1 _ _ ["thing"] spIsIntP := ok_isIntP FIsInt n_isinstance n_int n_bool
  have GAI : FnOk P w K mg base CX0 2 _ _ ["thing"] spAreIntsX := ok_areIntsX FAreInts FIsInt gIsInt n_isinstance n_tuple n_all n_int n_bool
  have GJ : FnOk P w K mg base CX0 1 _ _ ["thing", "names"] (spHasJustW w K) := ok_hasJustW FHasJust n_isinstance n_dict n_len n_all
  have GW := ok_isWorldX (P := P) (w := w) (base := base) FIsWorld T0 GJ FHasJust gHasJust GAI FAreInts gAreInts n_tuple
  have GPl := ok_plan (P := P) (w := w) (base := base) FPlan T Ck FPlanOf mPlanOf
  have GAp := ok_apart (P := P) (w := w) (base := base) FApart T Ck FDictOf mDictOf n_zip
  have GIP := ok_isPlan (P := P) (w := w) (base := base) FIsPlan T Ck FPlanOf mPlanOf FAreInts gAreInts GAI FIsInt gIsInt GII n_isinstance n_dict n_len n_all
  have GLk := ok_lack (P := P) (w := w) (K := K) (mg := mg) (base := base) FCkLack n_isinstance n_dict n_all
  have GFo := ok_found (P := P) (w := w) (base := base) FFound T0 FIsPlan mIsPlan GIP FCkLack gCkLack GLk FAreInts gAreInts GAI n_tuple
  have GPa := ok_isPair (P := P) (w := w) (base := base) FIsPair FIsList gIsList n_isinstance n_list n_tuple n_len
  have GAA := ok_areAp (P := P) (w := w) (base := base) FAreAp T0 Ck FIsPair gIsPair GPa FIsWorld mIsWorld GW FIsParted gIsParted n_all
  have GTo := ok_isTold (P := P) (w := w) (base := base) FIsTold T Ck
  have GTe := ok_tells (P := P) (w := w) (mg := mg) (base := base) FTells FKey gKey n_tuple
  have GLo := ok_lot (P := P) (w := w) (mg := mg) (base := base) FLot FKey gKey n_tuple n_dict
  have GBp := ok_bentP (P := P) (w := w) (K := K) (mg := mg) (base := base) FBentP n_list n_dict n_tuple n_any n_str n_int
  have GBw := ok_bentW (P := P) (w := w) (base := base) FBentW FPick gPick GP n_list n_dict
  have GLA := ok_lawAp (P := P) (w := w) (base := base) FLawAp FKey gKey n_isinstance n_list n_tuple n_len n_all
  have GPR := ok_planR (P := P) (w := w) (base := base) FPlanR T0 FLot gLot GLo FBentP gBentP GBp FIsPlan mIsPlan GIP FFound mFound GFo FSame gSame M n_list n_dict
  exact ok_law (C := He.ga K "Table") FLaw { tc := T0, start := ⟨_, _, gStart, FStart⟩, rows := ⟨_, _, gRows, FRows, ok_rows FRows FNames gNames FPick gPick FDraw gDraw n_int n_len n_range n_dict⟩, turned := ⟨_, _, gTurned, FTurned, ok_turned FTurned GMi FMixed gMixed n_dict n_list⟩, sm := ⟨_, _, gSome, FSome, GSo⟩, pick := ⟨_, _, gPick, FPick, GP⟩, tells := ⟨_, _, gTells, FTells, GTe⟩, same := ⟨_, _, gSame, FSame, ok_sameB FSame M⟩, lot := ⟨_, _, gLot, FLot, GLo⟩, planR := ⟨_, _, gPlanR, FPlanR, GPR⟩, bentW := ⟨_, _, gBentW, FBentW, GBw⟩, lawAp := ⟨_, _, gLawAp, FLawAp, GLA⟩, told := ⟨_, _, mIsTold, FIsTold, GTo⟩, plan := ⟨_, _, mPlan, FPlan, GPl⟩, apart := ⟨_, _, mApart, FApart, GAp⟩, isPlan := ⟨_, _, mIsPlan, FIsPlan, GIP⟩, areAp := ⟨_, _, mAreAp, FAreAp, GAA⟩, made := Mk, init := ⟨_, FInit, GG⟩, gC := gC, nR := n_range, M := M }
end L2.TB
open PySem PySem.W PySem.Calls PyProof.Rows
set_option maxHeartbeats 0 in
theorem PySem.Challenge.cw_twoworlds_k02_whole_plans_or_worlds_holds : PySem.Challenge.rw_twoworlds_k02_whole_plans_or_worlds.Holds := by
  w_on; o_law
  refine HandSHeadRun.head_any (r := L2.TB.HdR.R) (q := L2.TB.HdR.qv) (H := L2.TB.hookK) (ob := L2.TB.obT) (M := 16000) (loose := L2.TB.HdR.names)
    (d := HandSHeadRun.topDef L2.TB.HdR.R.prog 46) (kwd := []) L2.TB.obT_eq
    (by kernel_rfl) (fun s => by kernel_rfl) L2.TB.HdR.run (by kernel_rfl) (by kernel_rfl) (by kernel_rfl) (by rfl)
    (by first | assumption | decide +kernel) (by decide +kernel) ⟨rfl, rfl, rfl, rfl, rfl, by decide +kernel⟩ ?hw ?hc
  case hw => w_witness2
  case hc =>
    refine LamX.walk_ofTsE (l := PySem.Challenge.rw_twoworlds_k02_whole_plans_or_worlds) (n := 63) (k := 8) (x := "script") (CX := fun _ => L2.CX0)
      rfl (by decide) (by kernel_rfl) ⟨rfl, by decide, by decide⟩ ?F (fun _ _ _ _ _ z => z)
    intro w mg fa h Y G hmg0
    obtain ⟨K, KX, c⟩ := Y
    have hmg : mg ("law" : PySem.Str) = some (.ref fa) := by
      have e : (HandSHeadRun.topDef L2.TB.HdR.R.prog 46).name = ("law" : PySem.Str) := by kernel_rfl
      rw [← e]; exact hmg0
    obtain ⟨fd, hb, hF⟩ := L2.TB.facts (P := PySem.Challenge.rw_twoworlds_k02_whole_plans_or_worlds.prog) (w := w) KX G hmg c
    exact ⟨K, KX, fd, L2.TB.csL K, L2.TB.spLawT K, fun p hp => c.emptyC hp, fun p hp => c.outC hp, fun p hp => PySem.W.codeHd_of_K KX (c.hdC hp), hb, fun H a ns hl _ hT hS => ⟨a, ns, rfl, hS, by omega, fun _ => rfl⟩, hF⟩
