import PyProof.Rows.All
import Wide.All
import OpenK.AllK
import Wide.FinOn
import KE.KExcIs
import HandS.ForMost
import HandS.Exc
import HandS.ExcInit
import HandS.ExcValue
import HandS.ExcField
import HandS.IsInst
import HandS.ExcIs
import HandS.Defaults
import HandS.Wide
import HandS.DictComp
import HandS.Head0
import HandS.Head1
import HandS.Head2
import HandS.HeadEnd
import HandS.HeadHook1
import PySem.Challenge.RW_twoworlds_k92_errors_made
set_option Elab.async false
set_option linter.all false
set_option maxRecDepth 100000
set_option maxHeartbeats 40000000
namespace L2.EV
open PySem PySem.Spec PyProof.Rows
def topS (i : Nat) : Stmt := PySem.Challenge.pw_twoworlds_k92_errors_made.main.body.getD i (.Pass ⟨0, 0, 0, 0⟩)
abbrev sStart : Stmt := topS 63
abbrev sDraw : Stmt := topS 64
abbrev sPick : Stmt := topS 65
abbrev sPairs : Stmt := topS 66
abbrev sHeld : Stmt := topS 67
abbrev sCls : Stmt := topS 68
abbrev sLaw : Stmt := topS 69

/-! the errors in the law's order: name, field -/
def tab : List (Str × Str) := [
  (("BadWorld" : Str), ("thing" : Str)),
  (("BadKnown" : Str), ("index" : Str)),
  (("NoQuestion" : Str), ("name" : Str)),
  (("BadPlan" : Str), ("thing" : Str)),
  (("BadAnswers" : Str), ("thing" : Str)),
  (("BadHands" : Str), ("name" : Str)),
  (("BadGroup" : Str), ("index" : Str)),
  (("NoHand" : Str), ("name" : Str)),
  (("BadNumber" : Str), ("thing" : Str)),
  (("Known" : Str), ("name" : Str)),
  (("NotKnown" : Str), ("name" : Str)),
  (("BadRow" : Str), ("index" : Str)),
  (("BadTree" : Str), ("thing" : Str)),
  (("BadWeight" : Str), ("index" : Str)),
  (("BadView" : Str), ("name" : Str)),
  (("BadBox" : Str), ("state" : Str)),
  (("BadAsk" : Str), ("name" : Str)),
  (("NoState" : Str), ("name" : Str)),
  (("NoLetter" : Str), ("name" : Str)),
  (("BadPut" : Str), ("index" : Str)),
  (("BadMarks" : Str), ("thing" : Str)),
  (("BadLink" : Str), ("sign" : Str)),
  (("BadUnknown" : Str), ("index" : Str)),
  (("BadSum" : Str), ("name" : Str)),
  (("BadPrime" : Str), ("prime" : Str)),
  (("BadHolder" : Str), ("index" : Str)),
  (("BadLetters" : Str), ("thing" : Str)),
  (("BadMachine" : Str), ("name" : Str)),
  (("BadIndex" : Str), ("index" : Str)),
  (("TakenName" : Str), ("name" : Str)),
  (("BadCode" : Str), ("name" : Str)),
  (("BadClass" : Str), ("name" : Str)),
  (("Uneven" : Str), ("name" : Str)),
  (("BadReader" : Str), ("thing" : Str)),
  (("NoClass" : Str), ("name" : Str)),
  (("BadPart" : Str), ("name" : Str)),
  (("BadBundle" : Str), ("name" : Str)),
  (("BadLinks" : Str), ("index" : Str)),
  (("BadTelling" : Str), ("index" : Str)),
  (("BadText" : Str), ("thing" : Str)),
  (("BadName" : Str), ("name" : Str)),
  (("NoName" : Str), ("name" : Str)),
  (("BadThing" : Str), ("thing" : Str)),
  (("BadOrder" : Str), ("line" : Str)),
  (("BadLine" : Str), ("index" : Str)),
  (("BadWindow" : Str), ("name" : Str)),
  (("BadPeople" : Str), ("index" : Str)),
  (("BadPlaces" : Str), ("index" : Str)),
  (("BadPlace" : Str), ("thing" : Str)),
  (("BadFacts" : Str), ("thing" : Str)),
  (("NoPerson" : Str), ("name" : Str)),
  (("SamePerson" : Str), ("name" : Str)),
  (("BadArc" : Str), ("name" : Str)),
  (("BadNames" : Str), ("index" : Str)),
  (("BadAmounts" : Str), ("name" : Str)),
  (("BadPiece" : Str), ("index" : Str)),
  (("UnlikeQuestions" : Str), ("" : Str)),
  (("UnlikeLetters" : Str), ("" : Str)),
  (("NoRow" : Str), ("" : Str)),
  (("Crowded" : Str), ("" : Str))
]
def nm (i : Nat) : Str := (tab.getD i ("", "")).1
def fl (i : Nat) : Str := (tab.getD i ("", "")).2
abbrev veB : List Value := [.type "ValueError", .type "Exception", .type "BaseException", .type "object"]
/-! ### what the top leaves, by addresses -/
def asK : List Nat := ([3, 24, 23, 1153, 1152, 1160, 1159, 1167, 1166, 1174, 1173, 1181, 1180, 1188, 1187, 1193, 1192, 44, 43, 41, 40, 63, 62, 60, 59, 82, 81, 79, 78, 101, 100, 98, 97, 120, 119, 117, 116, 139, 138, 136] : List Nat) ++ ([135, 158, 157, 155, 154, 177, 176, 174, 173, 196, 195, 193, 192, 215, 214, 212, 211, 234, 233, 231, 230, 253, 252, 250, 249, 284, 283, 281, 280, 303, 302, 300, 299, 322, 321, 319, 318, 341, 340, 338] : List Nat) ++ ([337, 360, 359, 357, 356, 379, 378, 376, 375, 398, 397, 395, 394, 417, 416, 414, 413, 436, 435, 433, 432, 455, 454, 452, 451, 486, 485, 483, 482, 505, 504, 502, 501, 524, 523, 521, 520, 543, 542, 540] : List Nat) ++ ([539, 562, 561, 559, 558, 581, 580, 578, 577, 600, 599, 597, 596, 619, 618, 616, 615, 638, 637, 635, 634, 657, 656, 654, 653, 676, 675, 673, 672, 695, 694, 692, 691, 714, 713, 711, 710, 733, 732, 730] : List Nat) ++ ([729, 752, 751, 749, 748, 771, 770, 768, 767, 790, 789, 787, 786, 809, 808, 806, 805, 828, 827, 825, 824, 847, 846, 844, 843, 866, 865, 863, 862, 885, 884, 882, 881, 904, 903, 901, 900, 935, 934, 932] : List Nat) ++ ([931, 973, 972, 970, 969, 992, 991, 989, 988, 1011, 1010, 1008, 1007, 1030, 1029, 1027, 1026, 1049, 1048, 1046, 1045, 1068, 1067, 1065, 1064, 1087, 1086, 1084, 1083, 1106, 1105, 1103, 1102, 1125, 1124, 1122, 1121, 1144, 1143, 1141] : List Nat) ++ ([1140, 265, 264, 467, 466, 916, 915, 954, 953, 951, 950] : List Nat)
def clA : List Nat := ([44, 63, 82, 101, 120, 139, 158, 177, 196, 215, 234, 253, 284, 303, 322, 341, 360, 379, 398, 417, 436, 455, 486, 505, 524, 543, 562, 581, 600, 619, 638, 657, 676, 695, 714, 733, 752, 771, 790, 809] : List Nat) ++ ([828, 847, 866, 885, 904, 935, 973, 992, 1011, 1030, 1049, 1068, 1087, 1106, 1125, 1144, 265, 467, 916, 954] : List Nat)
def inA : List Nat := ([41, 60, 79, 98, 117, 136, 155, 174, 193, 212, 231, 250, 281, 300, 319, 338, 357, 376, 395, 414, 433, 452, 483, 502, 521, 540, 559, 578, 597, 616, 635, 654, 673, 692, 711, 730, 749, 768, 787, 806] : List Nat) ++ ([825, 844, 863, 882, 901, 932, 970, 989, 1008, 1027, 1046, 1065, 1084, 1103, 1122, 1141, 0, 0, 0, 951] : List Nat)
def cl (i : Nat) : Addr := clA.getD i 0
def ini (i : Nat) : Addr := inA.getD i 0
abbrev WA : Addr := 24
/-- the class at C is an error class whose bases are bm0 -/
def clsB (K : PySem.W.Frag) (C : Addr) (bm0 : List Value) : Bool := match K.lookup C with
  | some ⟨.type "type", _, .cls cd, sl⟩ => (match cd.mro, sl.toList with
    | .ref C' :: bm, [_, _, _, _, some (.builtin n), _] => C' == C && (n == "ValueError.__new__" && (!cd.hasDel && (cd.hasDict && bm == bm0)))
    | _, _ => false)
  | _ => false
/-- what all error classes have -/
def comB (K : PySem.W.Frag) (C : Addr) : Bool :=
  He.eqO (PySem.W.findIn K (.ref C) "__getattribute__") (some (some (.builtin "BaseException.__getattribute__"))) &&
    (He.eqO (PySem.W.findIn K (.ref C) "__getattr__") (some none) && (He.eqO (PySem.W.findIn K (.ref C) "__class__") (some (some (.builtin "object.__class__"))) && PySem.W.keepIn K (.ref C)))
def oneB (K : PySem.W.Frag) (x : Str) (C : Addr) (bm : List Value) : Bool :=
  He.eqO (PySem.W.nsIn K mainGlobals x) (some (some (.ref C))) && (clsB K C bm && comB K C)
def initB (K : PySem.W.Frag) (C fI : Addr) : Bool :=
  He.eqO (PySem.W.findIn K (.ref C) "__setattr__") (some (some (.builtin "object.__setattr__"))) &&
    (He.eqO (PySem.W.findIn K (.ref C) "__init__") (some (some (.ref fI))) && decide (PySem.W.typeIn K (.ref fI) = some (.type "function")))
def noB (K : PySem.W.Frag) (C : Addr) (f : Str) : Bool := He.eqO (PySem.W.findIn K (.ref C) f) (some none)
def frB (K : PySem.W.Frag) (x : Str) : Bool := He.eqO (PySem.W.nsIn K mainGlobals x) (some none)
def defB (K : PySem.W.Frag) (x : Str) (a : Addr) : Bool := He.eqO (PySem.W.nsIn K mainGlobals x) (some (some (.ref a))) && PySem.W.keepIn K (.ref a)
def codeB (K : PySem.W.Frag) (a : Addr) (q : Str) : Bool := match K.lookup a with
  | some ⟨_, _, .func fd, _⟩ => PySem.W.codeIn K fd.code q
  | _ => false
abbrev bmK : List Value := .ref WA :: veB
def frees : List Str := ["range", "any", "enumerate", "isinstance", "bool", "ValueError", "int", "len", "list"]
def lawDefs : List (Str × Nat) := [("_law_start", 1153), ("_law_draw", 1160), ("_law_pick", 1167), ("_law_pairs", 1174), ("_law_held", 1181), ("_law_classes", 1188), ("law", 1193)]
/-- a def: its address, name, qualified name, text -/
abbrev DefT : Type := Nat × Str × Str × Stmt
def defsL : List DefT := [(1153, ("_law_start" : Str), ("_law_start" : Str), topS 63), (1160, ("_law_draw" : Str), ("_law_draw" : Str), topS 64), (1167, ("_law_pick" : Str), ("_law_pick" : Str), topS 65), (1174, ("_law_pairs" : Str), ("_law_pairs" : Str), topS 66), (1181, ("_law_held" : Str), ("_law_held" : Str), topS 67), (1188, ("_law_classes" : Str), ("_law_classes" : Str), topS 68), (1193, ("law" : Str), ("law" : Str), topS 69)]
def defsI0 : List DefT := [(41, ("__init__" : Str), ("BadWorld.__init__" : Str), inClass (topS 2) 0), (60, ("__init__" : Str), ("BadKnown.__init__" : Str), inClass (topS 3) 0), (79, ("__init__" : Str), ("NoQuestion.__init__" : Str), inClass (topS 4) 0), (98, ("__init__" : Str), ("BadPlan.__init__" : Str), inClass (topS 5) 0), (117, ("__init__" : Str), ("BadAnswers.__init__" : Str), inClass (topS 6) 0), (136, ("__init__" : Str), ("BadHands.__init__" : Str), inClass (topS 7) 0), (155, ("__init__" : Str), ("BadGroup.__init__" : Str), inClass (topS 8) 0), (174, ("__init__" : Str), ("NoHand.__init__" : Str), inClass (topS 9) 0), (193, ("__init__" : Str), ("BadNumber.__init__" : Str), inClass (topS 10) 0), (212, ("__init__" : Str), ("Known.__init__" : Str), inClass (topS 11) 0), (231, ("__init__" : Str), ("NotKnown.__init__" : Str), inClass (topS 12) 0), (250, ("__init__" : Str), ("BadRow.__init__" : Str), inClass (topS 13) 0), (281, ("__init__" : Str), ("BadTree.__init__" : Str), inClass (topS 15) 0), (300, ("__init__" : Str), ("BadWeight.__init__" : Str), inClass (topS 16) 0), (319, ("__init__" : Str), ("BadView.__init__" : Str), inClass (topS 17) 0), (338, ("__init__" : Str), ("BadBox.__init__" : Str), inClass (topS 18) 0), (357, ("__init__" : Str), ("BadAsk.__init__" : Str), inClass (topS 19) 0), (376, ("__init__" : Str), ("NoState.__init__" : Str), inClass (topS 20) 0), (395, ("__init__" : Str), ("NoLetter.__init__" : Str), inClass (topS 21) 0), (414, ("__init__" : Str), ("BadPut.__init__" : Str), inClass (topS 22) 0)]
def defsI1 : List DefT := [(433, ("__init__" : Str), ("BadMarks.__init__" : Str), inClass (topS 23) 0), (452, ("__init__" : Str), ("BadLink.__init__" : Str), inClass (topS 24) 0), (483, ("__init__" : Str), ("BadUnknown.__init__" : Str), inClass (topS 26) 0), (502, ("__init__" : Str), ("BadSum.__init__" : Str), inClass (topS 27) 0), (521, ("__init__" : Str), ("BadPrime.__init__" : Str), inClass (topS 28) 0), (540, ("__init__" : Str), ("BadHolder.__init__" : Str), inClass (topS 29) 0), (559, ("__init__" : Str), ("BadLetters.__init__" : Str), inClass (topS 30) 0), (578, ("__init__" : Str), ("BadMachine.__init__" : Str), inClass (topS 31) 0), (597, ("__init__" : Str), ("BadIndex.__init__" : Str), inClass (topS 32) 0), (616, ("__init__" : Str), ("TakenName.__init__" : Str), inClass (topS 33) 0), (635, ("__init__" : Str), ("BadCode.__init__" : Str), inClass (topS 34) 0), (654, ("__init__" : Str), ("BadClass.__init__" : Str), inClass (topS 35) 0), (673, ("__init__" : Str), ("Uneven.__init__" : Str), inClass (topS 36) 0), (692, ("__init__" : Str), ("BadReader.__init__" : Str), inClass (topS 37) 0), (711, ("__init__" : Str), ("NoClass.__init__" : Str), inClass (topS 38) 0), (730, ("__init__" : Str), ("BadPart.__init__" : Str), inClass (topS 39) 0), (749, ("__init__" : Str), ("BadBundle.__init__" : Str), inClass (topS 40) 0), (768, ("__init__" : Str), ("BadLinks.__init__" : Str), inClass (topS 41) 0), (787, ("__init__" : Str), ("BadTelling.__init__" : Str), inClass (topS 42) 0), (806, ("__init__" : Str), ("BadText.__init__" : Str), inClass (topS 43) 0)]
def defsI2 : List DefT := [(825, ("__init__" : Str), ("BadName.__init__" : Str), inClass (topS 44) 0), (844, ("__init__" : Str), ("NoName.__init__" : Str), inClass (topS 45) 0), (863, ("__init__" : Str), ("BadThing.__init__" : Str), inClass (topS 46) 0), (882, ("__init__" : Str), ("BadOrder.__init__" : Str), inClass (topS 47) 0), (901, ("__init__" : Str), ("BadLine.__init__" : Str), inClass (topS 48) 0), (932, ("__init__" : Str), ("BadWindow.__init__" : Str), inClass (topS 50) 0), (970, ("__init__" : Str), ("BadPeople.__init__" : Str), inClass (topS 52) 0), (989, ("__init__" : Str), ("BadPlaces.__init__" : Str), inClass (topS 53) 0), (1008, ("__init__" : Str), ("BadPlace.__init__" : Str), inClass (topS 54) 0), (1027, ("__init__" : Str), ("BadFacts.__init__" : Str), inClass (topS 55) 0), (1046, ("__init__" : Str), ("NoPerson.__init__" : Str), inClass (topS 56) 0), (1065, ("__init__" : Str), ("SamePerson.__init__" : Str), inClass (topS 57) 0), (1084, ("__init__" : Str), ("BadArc.__init__" : Str), inClass (topS 58) 0), (1103, ("__init__" : Str), ("BadNames.__init__" : Str), inClass (topS 59) 0), (1122, ("__init__" : Str), ("BadAmounts.__init__" : Str), inClass (topS 60) 0), (1141, ("__init__" : Str), ("BadPiece.__init__" : Str), inClass (topS 61) 0)]
def defsC : List DefT := [(951, ("__init__" : Str), ("Crowded.__init__" : Str), inClass (topS 51) 0)]
def defsT : List DefT := defsL ++ (defsI0 ++ (defsI1 ++ (defsI2 ++ defsC)))
def chk1 (K : PySem.W.Frag) : Bool := (List.range 60).all (fun i => oneB K (nm i) (cl i) bmK)
def chk2 (K : PySem.W.Frag) : Bool :=
  (List.range 56).all (fun i => initB K (cl i) (ini i) && noB K (cl i) (fl i)) &&
  ((initB K (cl 59) (ini 59) && (noB K (cl 59) "first" && noB K (cl 59) "last")) && (oneB K "WorldError" WA veB &&
  ([cl 56, cl 57, cl 58, WA].all (fun C => PySem.W.excIn K C veB "ValueError.__new__") && (frees.all (frB K) && (lawDefs.all (fun p => defB K p.1 p.2) &&
  (He.eqO (PySem.W.specialIn K (.builtin "object.__class__") "__get__") (some (some (.builtin "getset_descriptor.__get__"))) && decide (PySem.W.takesIn K (.builtin "object.__class__") = some true)))))))
def chk3 (K : PySem.W.Frag) : Bool := defsT.all (fun d => codeB K d.1 d.2.2.1)
def fnA (K : PySem.W.Frag) (a : Addr) : He.FnV := match K.lookup a with
  | some ⟨_, _, .func fd, _⟩ => some (fd.name, fd.qualname, fd.params, fd.body, fd.scope, fd.globals, fd.closure, fd.defaults, fd.builtins)
  | _ => none
def DefT.val (d : DefT) : He.FnV := some (d.2.1, d.2.2.1, defArgs d.2.2.2, .stmts (defBody d.2.2.2), defScope d.2.2.2, mainGlobals, [], .none, builtinsNs)
abbrev AlK : Type := Bool × List He.FnV
def obE (K : PySem.W.Frag) : AlK := (chk1 K && (chk2 K && chk3 K), defsT.map fun d => fnA K d.1)
def valK : AlK := (true, defsT.map DefT.val)
def hookK : PySem.W.Hook where
  α := AlK
  obs := fun s => obE (He.frG s.heap.get? asK)
  val := fun _ => valK
  says := fun _ h => ∃ K : PySem.W.Frag, K.In h ∧ obE K = valK
  of := fun _ _ e => ⟨_, He.frG_in, e⟩
  keeps := fun _ _ _ ⟨K, hK, c⟩ k => ⟨K, PySem.W.Frag.In.keeps hK k, c⟩
/-- the heap behind the top, as far as it is looked at -/
def keT (s : PySem.W.SharedT) : PySem.W.Frag := He.frG (HandSHeadRun.getT s) asK
def obT (s : PySem.W.SharedT) : AlK := obE (keT s)
theorem obT_eq (s : PySem.W.SharedT) : obT s = hookK.obs s.abs := by
  have e : HandSHeadRun.getT s = s.abs.heap.get? := funext fun a => HandSHeadRun.getT_eq s a
  unfold obT keT
  rw [e] <;> rfl
namespace HdR
open PySem PySem.W PySem.Calls PyProof.Rows
abbrev R : OpenRow := OpenLaw.row PySem.Challenge.rw_twoworlds_k92_errors_made
abbrev qv : Program := view R.prog [69]
def names0 : List PySem.Str := ["WorldError", "BadWorld", "BadKnown", "NoQuestion", "BadPlan", "BadAnswers", "BadHands", "BadGroup", "NoHand", "BadNumber", "Known", "NotKnown", "BadRow", "UnlikeQuestions", "BadTree", "BadWeight", "BadView", "BadBox", "BadAsk", "NoState", "NoLetter", "BadPut", "BadMarks", "BadLink", "UnlikeLetters", "BadUnknown", "BadSum", "BadPrime", "BadHolder", "BadLetters"]
def names1 : List PySem.Str := ["BadMachine", "BadIndex", "TakenName", "BadCode", "BadClass", "Uneven", "BadReader", "NoClass", "BadPart", "BadBundle", "BadLinks", "BadTelling", "BadText", "BadName", "NoName", "BadThing", "BadOrder", "BadLine", "NoRow", "BadWindow", "Crowded", "BadPeople", "BadPlaces", "BadPlace", "BadFacts", "NoPerson", "SamePerson", "BadArc", "BadNames", "BadAmounts"]
def names2 : List PySem.Str := ["BadPiece", "_law_start", "_law_draw", "_law_pick", "_law_pairs", "_law_held", "_law_classes"]
def names : List PySem.Str := names0 ++ names1 ++ names2
set_option maxHeartbeats 0 in
theorem run0 (w : World) : HandSHeadRun.RunEq R qv Hook.none (fun _ => ()) 16000 names w := by
  intro os
  kernel_rfl
set_option maxHeartbeats 0 in
theorem run1 (w : World) (os : OsState) : (HandSHeadRun.endF (HandSHeadRun.stepQ (HandSHeadRun.denQ HandSHeadRun.tabQ) R.prog w) 16000 R.prog w os).map (fun s => L2.EV.chk1 (L2.EV.keT s)) = some true := by
  kernel_rfl
set_option maxHeartbeats 0 in
theorem run2 (w : World) (os : OsState) : (HandSHeadRun.endF (HandSHeadRun.stepQ (HandSHeadRun.denQ HandSHeadRun.tabQ) R.prog w) 16000 R.prog w os).map (fun s => L2.EV.chk2 (L2.EV.keT s)) = some true := by
  kernel_rfl
set_option maxHeartbeats 0 in
theorem run3 (w : World) (os : OsState) :
    (HandSHeadRun.endF (HandSHeadRun.stepQ (HandSHeadRun.denQ HandSHeadRun.tabQ) R.prog w) 16000 R.prog w os).map (fun s => (L2.EV.chk3 (L2.EV.keT s), L2.EV.defsT.map fun d => L2.EV.fnA (L2.EV.keT s) d.1)) = some (true, L2.EV.defsT.map L2.EV.DefT.val) := by
  kernel_rfl
theorem run (w : World) : HandSHeadRun.RunEq R qv L2.EV.hookK L2.EV.obT 16000 names w := by
  intro os
  have a := run0 w os
  have b := run1 w os
  have c := run2 w os
  have d := run3 w os
  cases e : HandSHeadRun.endF (HandSHeadRun.stepQ (HandSHeadRun.denQ HandSHeadRun.tabQ) R.prog w) 16000 R.prog w os with
  | none =>
    rw [e] at b
    cases b
  | some s =>
    rw [e] at a b c d
    have a2 := Option.some.inj a
    have b2 : L2.EV.chk1 (L2.EV.keT s) = true := Option.some.inj b
    have c2 : L2.EV.chk2 (L2.EV.keT s) = true := Option.some.inj c
    have d2 := Option.some.inj d
    have d3 : L2.EV.chk3 (L2.EV.keT s) = true := congrArg Prod.fst d2
    have d4 : (L2.EV.defsT.map fun d => L2.EV.fnA (L2.EV.keT s) d.1) = L2.EV.defsT.map L2.EV.DefT.val := congrArg Prod.snd d2
    have z : L2.EV.obT s = L2.EV.valK := by
      unfold L2.EV.obT L2.EV.obE L2.EV.valK
      rw [b2, c2, d3, d4]; rfl
    have a3 := congrArg Prod.fst a2
    have a4 := congrArg Prod.fst (congrArg Prod.snd a2)
    refine congrArg some (Prod.ext a3 (Prod.ext a4 z))
end HdR
end L2.EV
namespace EV
open PySem PySem.Spec PyProof.Rows PySem.HandSPX PySem.W
open Builtin Builtin.ObjectAttr
section
variable {M : Model} {prog : Program} {w : World} {A : Around} {E : Value → Shared → Prop}
  {R : Result → Shared → Prop} {h : Heap} {g : Array GenState} {d : Drawn} {t : Nat} {os : OsState}
variable {nm q : Str} {C N : Addr} {bs bm bmB : List Value} {hdct : Bool} {sn : List Str} {sub : List Value}
  {ab : Bool} {col : Option Bool} {dd : Option Addr} {k0 k1 k2 k3 k5 : Option Value} {B newId initId : String}

theorem kw_check (F : ExcBaseFacts B newId initId bmB)
    (same : ∀ X : String, bm.contains (.type X) = bmB.contains (.type X))
    {us : List Value} {ks : List (Str × Value)} {Q : Unit → Shared → Prop}
    (cl : h.get? C = some
      (excClassObj nm q C N bs bm hdct sn sub ab col dd k0 k1 k2 k3 k5 newId))
    (go : Q () ⟨h, g, d, t, os⟩) :
    wpAny M A (checkBuiltinCall newId ⟨.ref C :: us, ks⟩) Q E ⟨h, g, d, t, os⟩ := by
  have inB : (Value.ref C :: bm).contains (.type B) = true := by
    rw [List.contains_cons, same, F.hasB, Bool.or_true]
  have nostar := F.noStar
  simp only [checkBuiltinCall,
    F.newKind, F.newSplit, F.newRow]
  repeat (first
    | refine wpAny_loadPart_at cl ?_
    | (refine wpAny_isSubtype_exc cl ?_; rw [inB])
    | refine wpAny_staticBase_exc cl ?_
    | refine wpAny_madeBy_exc cl ?_
    | simp only [bne_self_eq_false, Bool.false_eq_true, if_false]
    | wp_step)
  exact go

theorem kw_new (F : ExcBaseFacts B newId initId bmB)
    (same : ∀ X : String, bm.contains (.type X) = bmB.contains (.type X))
    {us : List Value} {ks : List (Str × Value)}
    (cl : h.get? C = some
      (excClassObj nm q C N bs bm hdct sn sub ab col dd k0 k1 k2 k3 k5 newId))
    (go : R (.ok (.ret (.ref (h.objs.size + 1))))
      ⟨(h.push (kdv_tup us)).push (excO C h.objs.size), g, d, t, os⟩) (len : us.length ≤ sizeLine) :
    codeAny (model prog w) A (.builtin newId ⟨.ref C :: us, ks⟩) R ⟨h, g, d, t, os⟩ := by
  have hends := F.ends
  have inB : (Value.ref C :: bm).contains (.type B) = true := by
    rw [List.contains_cons, same, F.hasB, Bool.or_true]
  have inA : (Value.ref C :: bm).contains (.type "AttributeError") = false := by
    rw [List.contains_cons, same, F.noAttr]; rfl
  have inN : (Value.ref C :: bm).contains (.type "NameError") = false := by
    rw [List.contains_cons, same, F.noName]; rfl
  refine codeAny_builtinAt F.entry ?_
  unfold Builtin.«BaseException.__new__»
  refine PySem.wpAt_bind ?_
  show PySem.wpAt _ _ _ (stack >>= _) _ _ _
  refine PySem.wpAt_bind (PySem.wpAt_stack fun p below => PySem.wpAt_of_wpAny ?_)
  wp_walk
  refine PySem.wpAt_of_wpAny ?_
  rw [F.owner]
  repeat (first
    | with_reducible refine wpAny_madeHere_exc F.canon cl ?_
    | with_reducible refine wpAny_loadPart_at cl ?_
    | (with_reducible refine wpAny_isSubtype_exc cl ?_; first | rw [inB] | rw [inA] | rw [inN])
    | wp_step)
  show R _ _
  rw [Heap.size_push]
  exact go

theorem kw_type (F : ExcBaseFacts B newId initId bmB)
    (same : ∀ X : String, bm.contains (.type X) = bmB.contains (.type X))
    {us : List Value} {ks : List (Str × Value)} {fI : Addr} {Q : Fin → Shared → Prop}
    (cl : h.get? C = some
      (excClassObj nm q C N bs bm hdct sn sub ab col dd k0 k1 k2 k3 k5 newId))
    (hi : Looks (model prog w) h (typeLookup (.ref C) "__init__") (some (.ref fI)))
    (hb : ∀ me, Looks (model prog w) h (bindSpecial (.ref fI) me) (.ref fI, [me]))
    (len : us.length ≤ sizeLine)
    (go : codeAny (model prog w) A (.call (.ref fI) ⟨.ref (h.objs.size + 1) :: us, ks⟩)
      (fun r s' => match r with
        | .ok (.ret v) => v = .none ∧ Q (.done (.ret (.ref (h.objs.size + 1)))) s'
        | .ok _ => False
        | .error e => E e s')
      ⟨(h.push (kdv_tup us)).push (excO C h.objs.size), g, d, t, os⟩) :
    wpAny (model prog w) A (Builtin.«type.__call__» ⟨.ref C :: us, ks⟩) Q E ⟨h, g, d, t, os⟩ := by
  repeat (first
    | with_reducible refine wpAny_loadPart_at cl ?_
    | with_reducible refine wpAny_madeBy_exc cl ?_
    | wp_step)
  refine codeAny_call_builtin_code (Code.quiet_builtin _ F.quiet) (kw_check F same cl ?_)
  refine kw_new F same cl ?_ len
  show wpAny _ _ _ _ _ _
  have kp : ∀ b o, h.get? b = some o →
      ((h.push (kdv_tup us)).push (excO C h.objs.size)).get? b = some o :=
    fun b o e => Heap.get?_push_of_some _ (Heap.get?_push_of_some _ e)
  have cl1 := kp _ _ cl
  have got : ((h.push (kdv_tup us)).push (excO C h.objs.size)).get? (h.objs.size + 1)
      = some (excO C h.objs.size) := by heap_get
  have me : (Value.ref C :: bm).contains (.ref C) = true := by simp
  have i1 := hi.keeps kp
  have b1 := (hb (.ref (h.objs.size + 1))).keeps kp
  unfold isInstance
  repeat (first
    | with_reducible refine wpAny_loadPart_at got ?_
    | (with_reducible refine wpAny_isSubtype_exc cl1 ?_; rw [me])
    | wp_step)
  show wpAny _ _ (typeLookup (.ref C) _) _ _ _
  refine i1.at ?_
  refine wpAny_holding (wpAny_bind (b1.at ?_))
  refine wpAny_bind (wpAny_call (codeAny_mono go fun r s' z => ?_))
  rcases r with e | (v | _ | _ | _) <;> first | exact z | exact z.elim | skip
  obtain ⟨rfl, z⟩ := z
  first
    | exact wpAny_pure (wpAny_pure z)
    | (wp_walk; exact z)

theorem kw_call (F : ExcBaseFacts B newId initId bmB)
    (same : ∀ X : String, bm.contains (.type X) = bmB.contains (.type X))
    {us : List Value} {ks : List (Str × Value)} {fI : Addr}
    (cl : h.get? C = some
      (excClassObj nm q C N bs bm hdct sn sub ab col dd k0 k1 k2 k3 k5 newId))
    (hi : Looks (model prog w) h (typeLookup (.ref C) "__init__") (some (.ref fI)))
    (hb : ∀ me, Looks (model prog w) h (bindSpecial (.ref fI) me) (.ref fI, [me]))
    (len : us.length ≤ sizeLine)
    (go : codeAny (model prog w) (A.under (.builtin "type.__call__" ⟨.ref C :: us, ks⟩))
      (.call (.ref fI) ⟨.ref (h.objs.size + 1) :: us, ks⟩) (InitBack (h.objs.size + 1) R)
      ⟨(h.push (kdv_tup us)).push (excO C h.objs.size), g, d, t, os⟩) :
    codeAny (model prog w) A (.call (.ref C) ⟨us, ks⟩) R ⟨h, g, d, t, os⟩ := by
  have f1 := tc_lookup
  have f2 := tc_bind (.ref C)
  have ty : (⟨h, g, d, t, os⟩ : Shared).TypeIs (.ref C) "type" := ⟨_, cl, rfl⟩
  refine codeAny_of_tree ?_
  show wpAny _ _ (callAny (.ref C) _) _ _ _
  repeat (any_goals (first
    | assumption
    | with_reducible refine wpAny_loadPart_at cl ?_
    | wp_step))
  refine ⟨rfl, ?_⟩
  refine codeAny_call_builtin_at (Code.quiet_builtin _ (by decide +kernel)) entry_typeCall
    (wpAny_check_type_call_sub cl (kw_type F same cl hi hb len ?_))
  refine codeAny_mono go fun r s' z => ?_
  rcases r with e | (v | _ | _ | _) <;> exact z
end
end EV

namespace L2.EV
open PySem PySem.Spec PyProof.Rows _root_.EV

/-! an error object of the class at C whose fields are fs -/
def ErrAt (H : Hp) (a C : Addr) (fs : List (Str × V)) : Prop :=
  (fs = [] ∧ H a = some (exo a C none)) ∨
  ∃ d, H a = some (exo a C (some d)) ∧ H d = some (exd d fs)
theorem ErrAt.same {H H' : Hp} {a C : Addr} {fs : List (Str × V)} (x : ErrAt H a C fs) (s : Same H H') : ErrAt H' a C fs := by
  rcases x with ⟨e, x⟩ | ⟨d, x, y⟩
  · exact .inl ⟨e, s _ _ x⟩
  · exact .inr ⟨d, s _ _ x, s _ _ y⟩

/-! ### the rule of a call C(..), C an own error with its own __init__ -/
section
variable {X : Cx} {pins : List (Addr × Obj)} {σ : St} {H : Hp} {s : Shared} {C fI : Addr} {k : Nat} {fd : FuncData} {ps ks : List Str} {sp : Sp} {Q : VK} {us ws al : List Value} {vl : List V}
theorem run_err (T : OexC X.K C) (iC : PySem.W.findIn X.K (.ref C) "__init__" = some (some (.ref fI)))
    (tI : PySem.W.typeIn X.K (.ref fI) = some (.type "function"))
    (F : FnOk X.prog X.w X.K X.mg X.base CX0 k fI fd ps sp) (hr : Room (k + 1) X.A) (I : Inv X pins σ H s)
    (bd : ∀ (a : Addr) (s' : Shared), X.K.In s'.heap → BindsTo s' fd ⟨Value.ref a :: us, ks.zip ws⟩ (ps.zip (Value.ref a :: al)))
    (ra : Vals vl al) (len : us.length ≤ sizeLine)
    (go : ∀ a, H a = none → sp (.ref a :: vl) (upd H a (exo a C none)) (fun v H2 => v = .non ∧ Q (.ref a) H2) E0) :
    wpAny (model X.prog X.w) X.A (call (.ref C) us (ks.zip ws)) (EP X pins σ Q) X.xe s := by
  obtain ⟨nm, q, N, bs, bm, sn, sub, ab, col, dd, k0, k1, k2, k3, k5, cl, hbm⟩ := T.cls
  obtain ⟨hp, g, dr, tk, os⟩ := s
  have big : hp.objs.size ≤ hp.objs.size + 1 := Nat.le_succ _
  have go1 := go (hp.objs.size + 1) (I.hok.fresh big)
  have kept : ∀ b o, hp.get? b = some o →
      ((hp.push (PySem.W.kdv_tup us)).push (PySem.HandSPX.excO C hp.objs.size)).get? b = some o :=
    fun b o e => Heap.get?_push_of_some _ (Heap.get?_push_of_some _ e)
  have got : ((hp.push (PySem.W.kdv_tup us)).push (PySem.HandSPX.excO C hp.objs.size)).get? (hp.objs.size + 1)
      = some (PySem.HandSPX.excO C hp.objs.size) := by heap_get
  have J : Inv X pins σ (upd H (hp.objs.size + 1) (exo (hp.objs.size + 1) C none))
      ⟨(hp.push (PySem.W.kdv_tup us)).push (PySem.HandSPX.excO C hp.objs.size), g, dr, tk, os⟩ :=
    I.laid (t' := tk) (a := hp.objs.size + 1) (o := exo (hp.objs.size + 1) C none)
      (h' := (hp.push (PySem.W.kdv_tup us)).push (PySem.HandSPX.excO C hp.objs.size)) kept big (exo_ok got)
  have rv : Vals (V.ref (hp.objs.size + 1) :: vl) (Value.ref (hp.objs.size + 1) :: al) := .cons rfl ra
  refine wpAny_call (kw_call PySem.F.excBase_ValueError
    (fun Y => PySem.HandSPX.refsVE_contains Y bm hbm) (I.kIn _ _ cl)
    (PySem.W.looks_findIn I.kIn iC) (fun me => PySem.W.bind_fn I.kIn me tI) len
    (codeAny_mono (F.run _ X.stack _ _ ⟨Value.ref (hp.objs.size + 1) :: us, ks.zip ws⟩
      (Value.ref (hp.objs.size + 1) :: al) _ _ E0 (hr.make C us (ks.zip ws)) (J.env0.make C us (ks.zip ws))
      (bd _ _ J.kIn) rv go1) fun r s' z => ?_))
  cases r with
  | error er => exact (pass0 (X := X)) pins σ _ _ er s' J z
  | ok fl =>
    cases fl with
    | ret u =>
      obtain ⟨v, H', I3, ru, ev, q3⟩ := J.after z
      subst ev
      exact ⟨ru, ⟨V.ref (hp.objs.size + 1), H', I3, rfl, q3⟩⟩
    | next => exact False.elim z
    | brk => exact False.elim z
    | cont => exact False.elim z
end

/-! ### the one-field error: its class's facts, its __init__ -/
def inArgs (f : Str) (p1 p2 : Pos) : Arguments :=
  { posonlyargs := [], args := [{ arg := "self", annotation := none, pos := p1 }, { arg := f, annotation := none, pos := p2 }]
    vararg := none, kwonlyargs := [], kw_defaults := [], kwarg := none, defaults := [] }
def inBody (f : Str) (q1 q2 q3 q4 : Pos) : List Stmt :=
  [.Assign [.Attribute (.Name "self" q1) f q2] (.Name f q3) q4]
def inScope (f : Str) : Scope :=
  { kind := .function, names := [("self", .local), (f, .local)], isGenerator := false, isCoroutine := false, more := [] }
/-- the names a field may have -/
structure FldN (f : Str) : Prop where
  s : (f == ("self" : Str)) = false
  d : (f == ("__debug__" : Str)) = false
  c : (f == ("__classdict__" : Str)) = false
  b1 : ∀ (qual : Str) (body : List Stmt) (p1 p2 : Pos) (kV doc pm : Value) (an : Option Addr) (cdv ct u v : Value),
    bindArgs (PySem.W.fnOf "__init__" qual (inArgs f p1 p2) body (inScope f) .none kV doc pm an cdv ct) ⟨[u, v], []⟩ = pure [(("self" : Str), u), (f, v)]
  b2 : ∀ (qual : Str) (body : List Stmt) (p1 p2 : Pos) (kV doc pm : Value) (an : Option Addr) (cdv ct u v : Value),
    bindArgs (PySem.W.fnOf "__init__" qual (inArgs f p1 p2) body (inScope f) .none kV doc pm an cdv ct) ⟨[u], [(f, v)]⟩ = pure [(("self" : Str), u), (f, v)]
structure ErrC (K : PySem.W.Frag) (mg : Str → Option Value) (x f : Str) (C fI : Addr) : Prop where
  g : mg x = some (.ref C)
  o : OexC K C
  iC : PySem.W.findIn K (.ref C) "__init__" = some (some (.ref fI))
  tI : PySem.W.typeIn K (.ref fI) = some (.type "function")
  noF : PySem.W.findIn K (.ref C) f = some none
  fld : XfC K C
  fn : ∃ (oc : Value) (od : Option Addr) (kV doc pm : Value) (an : Option Addr) (cdv ct : Value) (osl : Array (Option Value)) (qual : Str) (p1 p2 q1 q2 q3 q4 : Pos),
    K.lookup fI = some ⟨oc, od, .func (PySem.W.fnOf "__init__" qual (inArgs f p1 p2) (inBody f q1 q2 q3 q4) (inScope f) .none kV doc pm an cdv ct), osl⟩ ∧ PySem.W.codeIn K cdv qual = true
/-- C(v) or C(f=v): a new error that holds v -/
def spIni (K : PySem.W.Frag) (C : Addr) (f : Str) : Sp := fun vs H Q _ => ∃ (a : Addr) (v : V), vs = [.ref a, v] ∧ H a = some (exo a C none) ∧
  ∀ d, H d = none → d ≠ a → Q .non (upd (upd H d (exd d [(f, v)])) a (exo a C (some d)))
theorem inScope_ok {f : Str} (n : FldN f) : FnScope ["self", f] ["self", f] (inScope f) := by
  have ne : ¬ f = "self" := by have := n.s; simpa using this
  refine ⟨rfl, rfl, rfl, ?_, rfl, ?_, ?_⟩
  · simp [Ne.symm ne]
  · intro x hx
    left
    rcases List.mem_cons.mp hx with e | e
    · subst e; rfl
    · have e' : x = f := by simpa using e
      subst e'
      show List.lookup x [(("self" : Str), NameKind.local), (x, .local)] = _
      simp [List.lookup, n.s]
  · intro y hy
    have hy' : y = (("self" : Str), NameKind.local) ∨ y = (f, NameKind.local) := by simpa [inScope] using hy
    rcases hy' with e | e <;> (subst e; exact fun z => nomatch z)
theorem ini_ok {P : Program} {w : World} {K : PySem.W.Frag} {mg : Str → Option Value} {base : Heap} {x f : Str} {C fI : Addr} (n : FldN f) (T : ErrC K mg x f C fI) :
    ∃ fd : FuncData, FnOk P w K mg base CX0 1 fI fd ["self", f] (spIni K C f) ∧
      (∀ (s : Shared) (u v : Value), BindsTo s fd ⟨[u, v], []⟩ [("self", u), (f, v)]) ∧
      (∀ (s : Shared) (u v : Value), BindsTo s fd ⟨[u], [(f, v)]⟩ [("self", u), (f, v)]) := by
  obtain ⟨oc, od, kV, doc, pm, an, cdv, ct, osl, qual, p1, p2, q1, q2, q3, q4, lk, hcd⟩ := T.fn
  refine ⟨_, fn_of lk hcd (inScope_ok n) (fun vs H Q E h => by obtain ⟨a, v, e, _⟩ := h; rw [e]; rfl) fun A outer s H vs Q E hr hsp => ?_, fun s u v => .of_eq ?_, fun s u v => .of_eq ?_⟩
  · obtain ⟨a, v, rfl, ha, hq⟩ := hsp
    have hv1 : (inScope f).names.lookup f = some .local := by
      show List.lookup f [(("self" : Str), NameKind.local), (f, .local)] = _
      simp [List.lookup, n.s]
    refine ⟨_, pss_one (ps_ost (pv 0) (pe_var (i := 1) rfl (.inl hv1) n.d n.c)), ?_⟩
    refine ⟨v, rfl, V.ref a, rfl, a, C, rfl, T.o, T.noF, .inl ⟨ha, fun d hd hne => hq d hd hne⟩⟩
  · exact n.b1 ..
  · exact n.b2 ..

theorem fld_thing : FldN "thing" := ⟨by decide, by decide, by decide, fun _ _ _ _ _ _ _ _ _ _ _ _ => rfl, fun _ _ _ _ _ _ _ _ _ _ _ _ => rfl⟩
theorem fld_index : FldN "index" := ⟨by decide, by decide, by decide, fun _ _ _ _ _ _ _ _ _ _ _ _ => rfl, fun _ _ _ _ _ _ _ _ _ _ _ _ => rfl⟩
theorem fld_name : FldN "name" := ⟨by decide, by decide, by decide, fun _ _ _ _ _ _ _ _ _ _ _ _ => rfl, fun _ _ _ _ _ _ _ _ _ _ _ _ => rfl⟩
theorem fld_state : FldN "state" := ⟨by decide, by decide, by decide, fun _ _ _ _ _ _ _ _ _ _ _ _ => rfl, fun _ _ _ _ _ _ _ _ _ _ _ _ => rfl⟩
theorem fld_sign : FldN "sign" := ⟨by decide, by decide, by decide, fun _ _ _ _ _ _ _ _ _ _ _ _ => rfl, fun _ _ _ _ _ _ _ _ _ _ _ _ => rfl⟩
theorem fld_prime : FldN "prime" := ⟨by decide, by decide, by decide, fun _ _ _ _ _ _ _ _ _ _ _ _ => rfl, fun _ _ _ _ _ _ _ _ _ _ _ _ => rfl⟩
theorem fld_line : FldN "line" := ⟨by decide, by decide, by decide, fun _ _ _ _ _ _ _ _ _ _ _ _ => rfl, fun _ _ _ _ _ _ _ _ _ _ _ _ => rfl⟩

/-- what a new error leaves of the heap -/
theorem ini_after {H : Hp} {a d C : Addr} {fs : List (Str × V)} (ha : H a = none) (hd : upd H a (exo a C none) d = none) (ne : d ≠ a) :
    Same H (upd (upd (upd H a (exo a C none)) d (exd d fs)) a (exo a C (some d))) ∧
    ErrAt (upd (upd (upd H a (exo a C none)) d (exd d fs)) a (exo a C (some d))) a C fs := by
  rw [upd_ne ne] at hd
  refine ⟨fun b o e => ?_, .inr ⟨d, upd_same, ?_⟩⟩
  · rw [upd_ne (ne_of_none e ha), upd_ne (ne_of_none e hd), upd_ne (ne_of_none e ha)]; exact e
  · rw [upd_ne ne, upd_same]
/-- C(e), C(f=e) -/
def tErr (C : Addr) (f : Str) (te : TE) : TE := fun σ H Q => te σ H fun v H1 =>
  ∀ a H2, H1 a = none → Same H1 H2 → ErrAt H2 a C [(f, v)] → Q (.ref a) H2
section
variable {X : Cx} {x f : Str} {C fI : Addr} {e : Expr} {te : TE} {p pos kp : Pos}
def errQ (C : Addr) (f : Str) (Q : VK) : List V → Hp → Prop := fun vs H1 => match vs with
  | [v] => ∀ a H2, H1 a = none → Same H1 H2 → ErrAt H2 a C [(f, v)] → Q (.ref a) H2
  | _ => False
theorem errQ_one {C : Addr} {f : Str} {Q : VK} {vs : List V} {us : List Value} {H : Hp} (r : Vals vs us) (z : errQ C f Q vs H) :
    ∃ v u, vs = [v] ∧ us = [u] ∧ RelV v u ∧ ∀ a H2, H a = none → Same H H2 → ErrAt H2 a C [(f, v)] → Q (.ref a) H2 := by
  cases r with
  | nil => exact z.elim
  | cons a r =>
    cases r with
    | nil => exact ⟨_, _, rfl, rfl, a, z⟩
    | cons b r => exact z.elim
theorem one_len (v : Value) : [v].length ≤ sizeLine := by
  rw [sizeLine_eq]; show 1 ≤ _; omega
theorem nil_len : ([] : List Value).length ≤ sizeLine := Nat.zero_le _
theorem pe_err (n : FldN f) (T : ErrC X.K X.mg x f C fI) (hr : Room 2 X.A) (he : PE X e te) (hg : Gl X x := by rfl)
    (hdb : (x == ("__debug__" : Str)) = false := by decide) (hs : starEach [e] X.env = (false, eval e X.env) :: starEach [] X.env := by rfl)
    (hpl : (backTo pos (starEach [] X.env)).any (·.1) = false := by rfl) :
    PE X (.Call (.Name x p) [e] [] pos) (tErr C f te) := by
  refine ⟨fun pins s σ H Q I h => ?_⟩
  obtain ⟨fd, F, b1, b2⟩ := ini_ok (P := X.prog) (w := X.w) (base := X.base) n T
  refine wpAny_Call_Name_kw (ld_glob I hg T.g ?_ hdb)
  refine PySem.W.callWith_K (h₀ := X.base) I.ok.mod.kin T.o.kC
    (thn ((pa_cons he pa_nil hs).run pos pins s σ H (errQ C f Q) I h) fun us s1 ⟨vs, H1, I1, r1, z⟩ => ⟨I1.kIn, ?_⟩) hs hpl
  obtain ⟨v0, u0, rfl, rfl, rv, z⟩ := errQ_one r1 z
  · show wpAny _ _ (call (.ref C) [u0] (([] : List Str).zip ([] : List Value))) _ _ _
    refine run_err (vl := [v0]) (al := [u0]) T.o T.iC T.tI F hr I1 (fun a s' _ => b1 s' (.ref a) u0) (.cons rv .nil) (one_len _) fun a ha => ?_
    refine ⟨a, v0, rfl, upd_same, fun d hd ne => ⟨rfl, ?_⟩⟩
    obtain ⟨k1, k2⟩ := ini_after (fs := [(f, v0)]) ha hd ne
    exact z a _ ha k1 k2
theorem pe_errK (n : FldN f) (T : ErrC X.K X.mg x f C fI) (hr : Room 2 X.A) (he : PE X e te) (hg : Gl X x := by rfl)
    (hdb : (x == ("__debug__" : Str)) = false := by decide) :
    PE X (.Call (.Name x p) [] [⟨some f, e, kp⟩] pos) (tErr C f te) := by
  refine ⟨fun pins s σ H Q I h => ?_⟩
  obtain ⟨fd, F, b1, b2⟩ := ini_ok (P := X.prog) (w := X.w) (base := X.base) n T
  refine wpAny_Call_Name_kw (ld_glob I hg T.g ?_ hdb)
  refine PySem.W.callWith_KW0 (h₀ := X.base) I.ok.mod.kin T.o.kC (by rfl) ?_ (by rfl)
  refine thn ((pk_cons he pk_nil).run pos pins s σ H (errQ C f Q) I h) fun us s1 ⟨vs, H1, I1, r1, z⟩ => ⟨I1.kIn, ?_⟩
  obtain ⟨v0, u0, rfl, rfl, rv, z⟩ := errQ_one r1 z
  · show wpAny _ _ (call (.ref C) [] (([f] : List Str).zip [u0])) _ _ _
    refine run_err (vl := [v0]) (al := [u0]) T.o T.iC T.tI F hr I1 (fun a s' _ => b2 s' (.ref a) u0) (.cons rv .nil) nil_len fun a ha => ?_
    refine ⟨a, v0, rfl, upd_same, fun d hd ne => ⟨rfl, ?_⟩⟩
    obtain ⟨k1, k2⟩ := ini_after (fs := [(f, v0)]) ha hd ne
    exact z a _ ha k1 k2
end

/-! ### e.f and isinstance of an error that is held -/
/-- e.f -/
def tErrF (K : PySem.W.Frag) (f : Str) (te : TE) : TE := fun σ H Q => te σ H fun x H1 =>
  ∃ (a C : Addr) (fs : List (Str × V)) (v : V), x = .ref a ∧ XfC K C ∧ PySem.W.findIn K (.ref C) f = some none ∧ ErrAt H1 a C fs ∧ fs.lookup f = some v ∧ Q v H1
theorem err_inst {X : Cx} {pins : List (Addr × Obj)} {σ : St} {H : Hp} {s : Shared} {a C : Addr} {fs : List (Str × V)} (I : Inv X pins σ H s) (h : ErrAt H a C fs) :
    ∃ oe od, PySem.W.InstAt s.heap a oe C od ∧ ∀ (f : Str) (v : V), fs.lookup f = some v → ∃ o u, od = some o ∧ PySem.W.lookIn f o = some (some u) ∧ RelV v u := by
  rcases h with ⟨e, h⟩ | ⟨d, h, h2⟩
  · obtain ⟨t1, o⟩ := exo_at I.hok h
    refine ⟨_, none, ⟨o, rfl, rfl, trivial⟩, fun f v z => ?_⟩
    rw [e] at z
    cases z
  · obtain ⟨t1, o⟩ := exo_at I.hok h
    obtain ⟨mA, hns, rel⟩ := exd_at I.hok h2
    obtain ⟨od, ho, hl⟩ := lookIn_ns hns
    refine ⟨_, some od, ⟨o, rfl, rfl, ho⟩, fun f v z => ?_⟩
    obtain ⟨u, hu, ru⟩ := RelO.some_of (v := v) (o := mA f) (by rw [← z]; exact rel f)
    exact ⟨od, u, rfl, by rw [hl, hu], ru⟩
theorem pe_errf {X : Cx} {e : Expr} {te : TE} {pos : Pos} {f : Str} (he : PE X e te)
    (hb : attributeBase e f X.env (eval e X.env) = eval e X.env := by rfl) : PE X (.Attribute e f pos) (tErrF X.K f te) := by
  refine ⟨fun pins s σ H Q I h => ?_⟩
  refine attr_of hb (thn (he.run pins s σ H _ I h) fun u s1 hh => ?_)
  obtain ⟨x, H1, I1, rx, a, C, fs, v, ex, T, no, er, l, q⟩ := hh
  subst ex
  obtain rfl : u = Value.ref a := rx
  obtain ⟨oe, od, J, lk⟩ := err_inst I1 er
  obtain ⟨o, u, rfl, hl, ru⟩ := lk f v l
  exact HandSPX.exc_get I1.kIn J T.ga T.gg T.exC (PySem.W.findObj_own T.hdC no rfl hl) (handed_of ru) ⟨v, H1, I1.tok _, ru, q⟩
/-- isinstance(e, c) -/
def rIsErr (K : PySem.W.Frag) : List V → Hp → VK → Prop := fun xs H Q =>
  ∃ (a C : Addr) (fs : List (Str × V)) (c : V) (u : Value) (b : Bool), xs = [.ref a, c] ∧ ErrAt H a C fs ∧ ClsV c u ∧ ExcC K C ∧ PySem.W.kitOne K (.ref C) u = some b ∧ Q (.bl b) H
theorem call_isErr {X : Cx} : CallR X (.builtin "isinstance") (rIsErr X.K) := by
  intro pins s σ H xs us Q I r h
  obtain ⟨a, C, fs, c, w, b, rfl, er, k, T, e, q⟩ := h
  obtain ⟨u1, u2, rfl, r1, r2⟩ := vals2 r
  have e2 := k.eq r2
  subst e2
  obtain rfl : u1 = Value.ref a := r1
  obtain ⟨oe, od, J, _⟩ := err_inst I er
  have cs : (PySem.W.clsIn X.K C).isSome = true := by
    obtain ⟨cd, hc, _⟩ := PySem.W.any_some T.hd
    rw [hc]; rfl
  exact PySem.W.kia_one (PySem.W.kitx_exc cs T.hg T.hk T.hs T.ha T.hn T.ht T.hm) I.kIn J e (fun z => nomatch z) fun tk => ⟨.bl b, H, I.tok tk, rfl, q⟩
end L2.EV

namespace L2.EV
open PySem PySem.Spec PyProof.Rows _root_.EV
/-! ### the spring of draws -/
structure StrmAt (H : Hp) (l ls : Addr) (cs : List Int) (g k m N : Int) : Prop where
  o : H l = some (.lst [.ref ls, .int g, .int k, .int m])
  c : H ls = some (.lst (cs.map V.int))
  ne : ls ≠ l
  g0 : 0 ≤ g
  k0 : 0 ≤ k
  k1 : k ≤ N
  m0 : 0 ≤ m
  m1 : m < 2147483647
  sz : cs.length ≤ 100
def Strm (H : Hp) (l ls : Addr) (N : Int) : Prop := ∃ cs g k m, StrmAt H l ls cs g k m N
/-- all but the spring is as it was -/
def But (l ls : Addr) (H H' : Hp) : Prop := ∀ b o, b ≠ l → b ≠ ls → H b = some o → H' b = some o
theorem But.refl (l ls : Addr) (H : Hp) : But l ls H H := fun _ _ _ _ e => e
theorem But.trans {l ls : Addr} {H H1 H2 : Hp} (a : But l ls H H1) (b : But l ls H1 H2) : But l ls H H2 := fun c o h1 h2 e => b c o h1 h2 (a c o h1 h2 e)
theorem But.of {l ls : Addr} {H H' : Hp} (a : Same H H') : But l ls H H' := fun c o _ _ e => a c o e
theorem But.upd {l ls a : Addr} {H : Hp} {o : HO} (h : a = l ∨ a = ls) : But l ls H (upd H a o) := fun b u h1 h2 e => by
  have ne : b ≠ a := by rcases h with h | h <;> (subst h; assumption)
  rw [upd_ne ne]; exact e
theorem dp_ints {K : PySem.W.Frag} {H : Hp} : ∀ cs : List Int, DpAll K H (cs.map V.int) (cs.map PyData.int)
  | [] => .nil
  | c :: cs => .cons (.int c) (dp_ints cs)
def spDraw : Sp := fun vs H Q _ => ∃ (l ls : Addr) (many N : Int), vs = [.ref l, .int many] ∧ Strm H l ls N ∧ N ≤ 1000000 ∧ 0 < many ∧ many < 1000 ∧
  ∀ H' r, 0 ≤ r → r < many → Strm H' l ls (N + 1) → But l ls H H' → Q (.int r) H'
theorem scDraw : FnScope ["stream", "many", "cell", "digit", "mixed"] ["stream", "many"] (defScope sDraw) := ⟨rfl, rfl, rfl, by decide +kernel, rfl, by decide +kernel, by decide +kernel⟩
theorem pow_nn (a : Int) (h : 0 ≤ a) : 0 ≤ a ^ (Int.toNat 5) := Int.pow_nonneg h
theorem at0 {a b c d : V} : atI [a, b, c, d] 0 = some a := rfl
theorem at1 {a b c d : V} : atI [a, b, c, d] 1 = some b := rfl
theorem at2 {a b c d : V} : atI [a, b, c, d] 2 = some c := rfl
theorem at3 {a b c d : V} : atI [a, b, c, d] 3 = some d := rfl
theorem draw_end {A B C many : Int} (h : 0 < many) : 0 ≤ A % B % many ∧ A % B % many < many :=
  ⟨Int.emod_nonneg _ (by omega), Int.emod_lt_of_pos _ h⟩
section
variable {P : Program} {w : World} {K : PySem.W.Frag} {mg : Str → Option Value} {base : Heap} {f : Addr} {fd : FuncData}
theorem ok_draw (F : Fun K "_law_draw" "_law_draw" sDraw f fd) (gI : mg "int" = none) : FnOk P w K mg base CX0 1 f fd ["stream", "many"] spDraw := by
  refine F.ok scDraw (fun vs H Q E h => by obtain ⟨l, ls, many, N, e, _⟩ := h; rw [e]; rfl) fun cdv A outer s H vs Q E hr hsp => ?_
  obtain ⟨l, ls, many, N, rfl, ⟨cs, g, k, m, S⟩, hN, h0, h1, hq⟩ := hsp
  have nd := scDraw.nd
  have hu := hu_of hr
  have hu64 := hr.units
  obtain ⟨tl, ptl, htl⟩ : ∃ t, PSs (cxOf CX0 P w K mg base ["stream", "many", "cell", "digit", "mixed"] "_law_draw" (defScope sDraw) f cdv A outer s H E).nox ((defBody sDraw).drop 2) t ∧
      ∀ (H1 : Hp) (c : Option V) (cs : List Int) (g k m : Int), StrmAt H1 l ls cs g k m (N + 1) → But l ls H H1 →
        t { nx := fun _ H' => Q .non H', rt := Q } [some (.ref l), some (.int many), c, none, none] H1 := by
    refine ⟨_, pss_cons (ps_if (pt_cmpR op_gt (pe_ix ix_list (pv 0) pe_int (fun _ _ => rfl)) pe_int (nomark _))
      (pss_cons (ps_set (i := 3) nd rfl (Or.inl rfl) (pe_op op_mod (pe_callTy call_int1 rfl gI boot_int (pa_cons (pe_ix ix_list (pv 0) pe_int (fun _ _ => rfl)) pa_nil)) (pv 1)))
      (pss_cons (ps_asg (pe_op op_fdiv (pe_ix ix_list (pv 0) pe_int (fun _ _ => rfl)) (pv 1)) (pg_sub (pv 0) pe_int set_list))
      (pss_one (ps_ret (pv 3)))))
      pss_nil)
    (pss_cons (ps_set (i := 4) nd rfl (Or.inl rfl) (pe_op op_mod (pe_callTy call_int1 rfl gI boot_int (pa_cons (pe_op op_pow (pe_op op_add (pe_op op_add (pe_ix ix_list (pv 0) pe_int (fun _ _ => rfl)) (pe_op op_mul pe_int (pe_ix ix_list (pv 0) pe_int (fun _ _ => rfl)))) pe_int) pe_int) pa_nil)) pe_int))
    (pss_one (ps_ret (pe_op op_mod (pe_op op_mod (pe_callTy call_int1 rfl gI boot_int (pa_cons (pe_op op_pow (pe_op op_add (pe_op op_add (pe_op op_mul (pv 4) pe_int) (pe_op op_mul pe_int (pe_ix ix_list (pv 0) pe_int (fun _ _ => rfl)))) pe_int) pe_int) pa_nil)) pe_int) (pv 1))))), fun H1 c cs g k m S hB => ?_⟩
    refine ⟨_, rfl, _, _, _, _, rfl, rfl, SqL.of S.o, at1, _, _, rfl, rfl, _, rfl, ite2 (fun e => ?_) (fun e => ?_)⟩
    · refine ⟨_, rfl, _, _, _, _, rfl, rfl, SqL.of S.o, at1, .inl ⟨_, rfl, ?_⟩⟩
      refine ⟨_, rfl, _, _, rfl, rfl, h0, ?_⟩
      refine ⟨_, rfl, _, _, _, _, rfl, rfl, SqL.of S.o, at1, _, rfl, _, _, rfl, rfl, ⟨h0, by omega⟩, ?_⟩
      refine ⟨_, rfl, _, _, _, _, rfl, rfl, S.o, rfl, ?_⟩
      refine ⟨_, rfl, ?_⟩
      refine hq _ _ (Int.emod_nonneg _ (by omega)) (Int.emod_lt_of_pos _ h0) ⟨cs, g / many, k, m, ⟨upd_same, ?_, S.ne, Int.ediv_nonneg S.g0 (by omega), S.k0, S.k1, S.m0, S.m1, S.sz⟩⟩ (hB.trans (But.upd (.inl rfl)))
      rw [upd_ne S.ne]; exact S.c
    · have hk := S.k1
      have hk0 := S.k0
      have hm := S.m0
      have hm1 := S.m1
      refine ⟨_, rfl, _, _, _, _, rfl, rfl, SqL.of S.o, at3, _, rfl, _, _, _, _, rfl, rfl, SqL.of S.o, at2, _, _, rfl, rfl, .inl ⟨by decide, by decide⟩, _, _, rfl, rfl, _, _, rfl, rfl, _, _, rfl, rfl, ⟨by decide, by decide, ?_⟩, ?_⟩
      · omega
      refine .inl ⟨_, rfl, _, _, rfl, rfl, (by show (0 : Int) < 2147483629; decide), ?_⟩
      have e1 := Int.emod_nonneg ((m + 7919 * k + 104729) ^ Int.toNat 5) (show (2147483629 : Int) ≠ 0 by decide)
      have e2 := Int.emod_lt_of_pos ((m + 7919 * k + 104729) ^ Int.toNat 5) (show (0 : Int) < 2147483629 by decide)
      generalize (m + 7919 * k + 104729) ^ Int.toNat 5 % 2147483629 = z at e1 e2 ⊢
      refine ⟨_, rfl, _, _, rfl, rfl, .inr ⟨by decide, by decide⟩, _, rfl, _, _, _, _, rfl, rfl, SqL.of S.o, at2, _, _, rfl, rfl, .inl ⟨by decide, by decide⟩, _, _, rfl, rfl, _, _, rfl, rfl, _, _, rfl, rfl, ⟨by decide, by decide, ?_⟩, ?_⟩
      · omega
      refine .inl ⟨_, rfl, _, _, rfl, rfl, (by show (0 : Int) < 1000000007; decide), _, rfl, _, _, rfl, rfl, h0, ?_⟩
      exact hq _ _ (Int.emod_nonneg _ (by omega)) (Int.emod_lt_of_pos _ h0) ⟨cs, g, k, m, S⟩ hB
  refine ⟨_, pss_cons (ps_asg (pe_op op_add (pe_ix ix_list (pv 0) pe_int (fun _ _ => rfl)) pe_int) (pg_sub (pv 0) pe_int set_list))
    (pss_cons (ps_if (PW.pt (pw_and (pt_cmpR op_eq (pe_ix ix_list (pv 0) pe_int (fun _ _ => rfl)) pe_int (nomark _))
        (pw_and1 (pt_cmpR (op_neD hu64) (pe_ix ix_list (pv 0) pe_int (fun _ _ => rfl)) (pe_lst pa_nil) (nomark _)))))
      (pss_cons (ps_set (i := 2) nd rfl (Or.inl rfl) (pe_bm PySem.F.plainAttrs_list PySem.F.slot_list_pop PySem.F.type_list_pop mt_popAt (pe_ix ix_list (pv 0) pe_int (fun _ _ => rfl)) (pa_cons pe_int pa_nil)))
      (pss_cons (ps_asg (pe_op op_mod (pe_callTy call_int1 rfl gI boot_int (pa_cons (pe_op op_add (pe_op op_add (pe_op op_mul (pe_ix ix_list (pv 0) pe_int (fun _ _ => rfl)) pe_int) (pv 2)) pe_int) pa_nil)) pe_int) (pg_sub (pv 0) pe_int set_list))
      (pss_one (ps_asg (pe_ifExp (pt_cmpR op_ge (pv 2) (pe_op op_pow pe_int pe_int) (nomark _)) (pv 2) pe_int) (pg_sub (pv 0) pe_int set_list)))))
      pss_nil) ptl), ?_⟩
  refine ⟨_, rfl, _, _, _, _, rfl, rfl, SqL.of S.o, at2, _, _, rfl, rfl, _, rfl, _, _, _, _, rfl, rfl, S.o, rfl, ?_⟩
  have S1 : StrmAt (upd H l (.lst [.ref ls, .int g, .int (k + 1), .int m])) l ls cs g (k + 1) m (N + 1) :=
    ⟨upd_same, by rw [upd_ne S.ne]; exact S.c, S.ne, S.g0, by have := S.k0; omega, by have := S.k1; omega, S.m0, S.m1, S.sz⟩
  have B1 : But l ls H (upd H l (.lst [.ref ls, .int g, .int (k + 1), .int m])) := But.upd (.inl rfl)
  refine ⟨_, rfl, _, _, _, _, rfl, rfl, SqL.of S1.o, at1, rfl, _, rfl, ite2 (fun e => ?_) (fun e => ?_)⟩
  · refine ⟨_, rfl, _, _, _, _, rfl, rfl, SqL.of S1.o, at0, Nat.zero_le _, fun q nq => ?_⟩
    have ql : q ≠ l := by
      intro z; rw [z, upd_same] at nq; cases nq
    have qs : q ≠ ls := by
      intro z; rw [z, upd_ne S.ne] at nq; rw [S.c] at nq; cases nq
    have S2 : StrmAt (upd (upd H l (.lst [.ref ls, .int g, .int (k + 1), .int m])) q (.lst [])) l ls cs g (k + 1) m (N + 1) :=
      ⟨by rw [upd_ne (Ne.symm ql)]; exact S1.o, by rw [upd_ne (Ne.symm qs)]; exact S1.c, S.ne, S1.g0, S1.k0, S1.k1, S1.m0, S1.m1, S1.sz⟩
    have B2 : But l ls H (upd (upd H l (.lst [.ref ls, .int g, .int (k + 1), .int m])) q (.lst [])) := B1.trans (But.of fun b o eb => by
      rw [upd_ne (ne_of_none eb nq)]; exact eb)
    refine ⟨.list (cs.map .int), .list [], .lst (SqL.of S2.c) (dp_ints cs), .lst (SqL.of upd_same) .nil, PySem.W.shaped_ints cs, by decide, ?_⟩
    cases cs with
    | nil =>
      refine ⟨_, rfl, iteF ?_⟩
      exact htl _ none [] g (k + 1) m S2 B2
    | cons c cs =>
      refine ⟨_, rfl, iteT ?_⟩
      refine ⟨_, rfl, _, _, _, _, rfl, rfl, SqL.of S2.o, at0, .inl ⟨rfl, _, SqL.of S2.c⟩, ?_⟩
      have ix0 : ixN ((c :: cs).map V.int).length 0 = some 0 := by
        simp [ixN]
      refine ⟨ls, _, 0, 0, .int c, rfl, rfl, S2.c, by decide, by decide, (ixN_seq ix0).1, rfl, ?_⟩
      have S3 : StrmAt (upd (upd (upd H l (.lst [.ref ls, .int g, .int (k + 1), .int m])) q (.lst [])) ls (.lst (cs.map V.int))) l ls cs g (k + 1) m (N + 1) :=
        ⟨by rw [upd_ne (Ne.symm S.ne)]; exact S2.o, upd_same, S.ne, S2.g0, S2.k0, S2.k1, S2.m0, S2.m1, by have := S2.sz; simp only [List.length_cons] at this; omega⟩
      have B3 := B2.trans (But.upd (l := l) (ls := ls) (a := ls) (H := upd (upd H l (.lst [.ref ls, .int g, .int (k + 1), .int m])) q (.lst [])) (o := .lst (cs.map V.int)) (.inr rfl))
      have hm0 := S.m0
      have hm1 := S.m1
      refine ⟨_, rfl, _, _, _, _, rfl, rfl, SqL.of S3.o, at3, _, _, rfl, rfl, .inl ⟨by omega, by omega⟩, _, rfl, _, _, rfl, rfl, _, _, rfl, rfl, .inl ⟨_, rfl, _, _, rfl, rfl, (by show (0 : Int) < 2147483647; decide), ?_⟩⟩
      refine ⟨_, rfl, _, _, _, _, rfl, rfl, S3.o, rfl, ?_⟩
      have S4 : StrmAt (upd (upd (upd (upd H l (.lst [.ref ls, .int g, .int (k + 1), .int m])) q (.lst [])) ls (.lst (cs.map V.int))) l (.lst [.ref ls, .int g, .int (k + 1), .int ((m * 8191 + c + 3) % 2147483647)])) l ls cs g (k + 1) ((m * 8191 + c + 3) % 2147483647) (N + 1) :=
        ⟨upd_same, by rw [upd_ne S.ne]; exact S3.c, S.ne, S3.g0, S3.k0, S3.k1, Int.emod_nonneg _ (by decide), Int.emod_lt_of_pos _ (by decide), S3.sz⟩
      have B4 := B3.trans (But.upd (l := l) (ls := ls) (a := l) (o := .lst [.ref ls, .int g, .int (k + 1), .int ((m * 8191 + c + 3) % 2147483647)]) (.inl rfl))
      refine ⟨_, rfl, _, _, rfl, rfl, ⟨by decide, by decide, by decide⟩, _, _, rfl, rfl, _, rfl, ite2 (fun e4 => ?_) (fun e4 => ?_)⟩
      · refine ⟨_, rfl, _, rfl, _, _, _, _, rfl, rfl, S4.o, rfl, ?_⟩
        have hc : (0 : Int) ≤ c := by
          have z := of_decide_eq_true e4
          have z2 : (0 : Int) ≤ 10 ^ (Int.toNat 18) := Int.pow_nonneg (by decide)
          omega
        exact htl _ (some (.int c)) cs c (k + 1) ((m * 8191 + c + 3) % 2147483647)
          ⟨upd_same, by rw [upd_ne S.ne]; exact S4.c, S.ne, hc, S4.k0, S4.k1, S4.m0, S4.m1, S4.sz⟩ (B4.trans (But.upd (.inl rfl)))
      · refine ⟨_, rfl, _, _, _, _, rfl, rfl, S4.o, rfl, ?_⟩
        exact htl _ (some (.int c)) cs 0 (k + 1) ((m * 8191 + c + 3) % 2147483647)
          ⟨upd_same, by rw [upd_ne S.ne]; exact S4.c, S.ne, by decide, S4.k0, S4.k1, S4.m0, S4.m1, S4.sz⟩ (B4.trans (But.upd (.inl rfl)))
  · refine iteF ?_
    exact htl _ none cs g (k + 1) m S1 B1

def spStart (K : PySem.W.Frag) : Sp := fun vs H Q _ => ∃ (a : Addr) (ns : List Int), vs = [.ref a] ∧ SqL K H a (ns.map V.int) ∧ ns.length ≤ 100 ∧
  ∀ H' l ls, H l = none → Same H H' → Strm H' l ls 0 → H ls = none → Q (.ref l) H'
theorem scStart : FnScope ["script"] ["script"] (defScope sStart) := ⟨rfl, rfl, rfl, by decide +kernel, rfl, by decide +kernel, by decide +kernel⟩
theorem ok_start (F : Fun K "_law_start" "_law_start" sStart f fd) (gL : mg "list" = none) : FnOk P w K mg base CX0 1 f fd ["script"] (spStart K) := by
  refine F.ok scStart (fun vs H Q E h => by obtain ⟨a, ns, e, _⟩ := h; rw [e]; rfl) fun cdv A outer s H vs Q E hr hsp => ?_
  obtain ⟨a, ns, rfl, hS, hn, hq⟩ := hsp
  refine ⟨_, pss_one (ps_ret (pe_lst (pa_cons (pe_callTy call_list_of rfl gL (by decide +kernel) (pa_cons (pv 0) pa_nil)) (pa_cons pe_int (pa_cons pe_int (pa_cons pe_int pa_nil)))))), ?_⟩
  refine ⟨_, rfl, _, _, rfl, .inl hS, fun ls hls => ⟨by rw [sizeLine_eq]; show 4 ≤ _; omega, fun l hl => ?_⟩⟩
  have ne : ls ≠ l := by
    intro z; rw [← z, upd_same] at hl; cases hl
  have hl2 : H l = none := by rw [upd_ne (Ne.symm ne)] at hl; exact hl
  exact hq _ l ls hl2 (fun b o e => by rw [upd_ne (ne_of_none e hl2), upd_ne (ne_of_none e hls)]; exact e)
    ⟨ns, 0, 0, 11, ⟨upd_same, by rw [upd_ne ne, upd_same], ne, by decide, by decide, by decide, by decide, by decide, hn⟩⟩ hls
def spPick (K : PySem.W.Frag) : Sp := fun vs H Q _ => ∃ (l ls c : Addr) (xs : List V) (N : Int), vs = [.ref l, .ref c] ∧ Strm H l ls N ∧ N ≤ 1000000 ∧
  c ≠ l ∧ c ≠ ls ∧ H c = some (.lst xs) ∧ 0 < xs.length ∧ xs.length < 1000 ∧
  ∀ H' x, x ∈ xs → Strm H' l ls (N + 1) → But l ls H H' → Q x H'
theorem scPick : FnScope ["stream", "some"] ["stream", "some"] (defScope sPick) := ⟨rfl, rfl, rfl, by decide +kernel, rfl, by decide +kernel, by decide +kernel⟩
theorem ok_pick {fD : Addr} {fdD : FuncData} (F : Fun K "_law_pick" "_law_pick" sPick f fd) (FD : Fun K "_law_draw" "_law_draw" sDraw fD fdD)
    (gD : mg "_law_draw" = some (.ref fD)) (gI : mg "int" = none) (gN : mg "len" = none) : FnOk P w K mg base CX0 2 f fd ["stream", "some"] (spPick K) := by
  have G : FnOk P w K mg base CX0 1 fD fdD ["stream", "many"] spDraw := ok_draw FD gI
  have b := FD.binds (ps := ["stream", "many"]) fun _ _ _ _ _ _ us hl => match us, hl with | [_, _], _ => rfl
  refine F.ok scPick (fun vs H Q E h => by obtain ⟨l, ls, c, xs, N, e, _⟩ := h; rw [e]; rfl) fun cdv A outer s H vs Q E hr hsp => ?_
  obtain ⟨l, ls, c, xs, N, rfl, hS, hN, n1, n2, hc, h0, h1, hq⟩ := hsp
  refine ⟨_, pss_one (ps_ret (pe_ix ix_list (pv 1) (pe_call G hr rfl gD FD.kp b .nil pass0 (pa_cons (pv 0) (pa_cons (pe_callB call_len rfl gN boot_len (pa_cons (pv 1) pa_nil)) pa_nil))) (fun _ _ => rfl))), ?_⟩
  refine ⟨_, rfl, _, rfl, _, rfl, _, xs.length, rfl, .inl ⟨_, SqL.of hc, rfl⟩, ?_⟩
  refine ⟨l, ls, _, N, rfl, hS, hN, by omega, by omega, fun H' r r0 r1 S' B' => ?_⟩
  have hr2 : r.toNat < xs.length := by omega
  refine ⟨_, _, _, xs[r.toNat], rfl, rfl, SqL.of (B' c _ n1 n2 hc), ?_, hq H' _ (List.getElem_mem _) S' B'⟩
  have e : ((r.toNat : Nat) : Int) = r := by omega
  have z := atI_nat (xs := xs) (j := r.toNat) (v := xs[r.toNat]) (by simp)
  rw [e] at z
  exact z
end
end L2.EV

namespace L2.EV
open PySem PySem.Spec PyProof.Rows _root_.EV
/-- what the top has written of the errors -/
structure Tx (K : PySem.W.Frag) (mg : Str → Option Value) (cl ini : Nat → Addr) : Prop where
  err : ∀ i, i < 56 → ErrC K mg (nm i) (fl i) (cl i) (ini i)
def PairAt (H : Hp) (t C : Addr) (f : Str) (v : V) : Prop := ∃ a b, H t = some (.tup [.ref a, .ref b]) ∧ ErrAt H a C [(f, v)] ∧ ErrAt H b C [(f, v)]
/-- all but l is as it was -/
def Bl (l : Addr) (H H' : Hp) : Prop := ∀ b o, b ≠ l → H b = some o → H' b = some o
theorem Bl.refl (l : Addr) (H : Hp) : Bl l H H := fun _ _ _ e => e
theorem Bl.trans {l : Addr} {H H1 H2 : Hp} (a : Bl l H H1) (b : Bl l H1 H2) : Bl l H H2 := fun c o n e => b c o n (a c o n e)
theorem Bl.of {l : Addr} {H H1 : Hp} (a : Same H H1) : Bl l H H1 := fun c o _ e => a c o e
theorem Bl.err {l a C : Addr} {H H' : Hp} {fs : List (Str × V)} (b : Bl l H H') {xs : List V} (hl : H l = some (.lst xs)) (e : ErrAt H a C fs) : ErrAt H' a C fs := by
  have nl : ∀ c, (∀ u, H c ≠ some (.lst u)) → c ≠ l := fun c z q => by
    rw [q] at z; exact z _ hl
  rcases e with ⟨q, e⟩ | ⟨d, e, e2⟩
  · exact .inl ⟨q, b _ _ (nl a fun u z => by rw [e] at z; have := Option.some.inj z; cases this) e⟩
  · refine .inr ⟨d, b _ _ (nl a fun u z => ?_) e, b _ _ (nl d fun u z => ?_) e2⟩
    · rw [e] at z; have := Option.some.inj z; cases this
    · rw [e2] at z; have := Option.some.inj z; cases this
theorem Bl.pair {l t C : Addr} {f : Str} {v : V} {H H' : Hp} (b : Bl l H H') {xs : List V} (hl : H l = some (.lst xs)) (p : PairAt H t C f v) : PairAt H' t C f v := by
  obtain ⟨a, c, e, p1, p2⟩ := p
  refine ⟨a, c, b _ _ (fun q => ?_) e, b.err hl p1, b.err hl p2⟩
  rw [q, hl] at e; cases e
/-- found.extend([(A(x), A(f=x)), (B(x), B(g=x))]) -/
def tPair2 (C : Addr) (f : Str) (C' : Addr) (f' : Str) : TS := fun D σ H => ∃ (l : Addr) (ts : List Addr) (v : V), σ[0]? = some (some v) ∧ σ[1]? = some (some (.ref l)) ∧ H l = some (.lst (ts.map V.ref)) ∧ ts.length ≤ 900 ∧
  ∀ H' t t', Bl l H H' → H' l = some (.lst ((ts ++ [t, t']).map V.ref)) → PairAt H' t C f v → PairAt H' t' C' f' v → D.nx σ H'
def tPair2' (K : PySem.W.Frag) (C : Addr) (f : Str) (C' : Addr) (f' : Str) : TE := tBM K "list" rExtend (tVar 1)
  (tCons (tLst (tCons (tTup (tCons (tErr C f (tVar 0)) (tCons (tErr C f (tVar 0)) tNil))) (tCons (tTup (tCons (tErr C' f' (tVar 0)) (tCons (tErr C' f' (tVar 0)) tNil))) tNil))) tNil)
theorem pair2_imp {K : PySem.W.Frag} {C C' : Addr} {f f' : Str} {D : Ends} {σ : St} {H : Hp} (h : tPair2 C f C' f' D σ H) : tPair2' K C f C' f' σ H fun _ H' => D.nx σ H' := by
  obtain ⟨l, ts, v, s0, s1, hl, hz, go⟩ := h
  refine ⟨_, s1, .inl ⟨rfl, _, SqL.of hl⟩, v, s0, fun a H1 na sa ea => ⟨v, s0, fun b H2 nb sb eb => ?_⟩⟩
  refine ⟨(by rw [sizeLine_eq]; show 2 ≤ _; omega), fun t nt => ⟨v, s0, fun a' H4 na' sa' ea' => ⟨v, s0, fun b' H5 nb' sb' eb' => ?_⟩⟩⟩
  refine ⟨(by rw [sizeLine_eq]; show 2 ≤ _; omega), fun t' nt' => ?_⟩
  refine ⟨(by rw [sizeLine_eq]; show 2 ≤ _; omega), fun q nq => ?_⟩
  have k1 : Same H H2 := sa.trans sb
  have k2 : Same H2 (upd H2 t (.tup [.ref a, .ref b])) := fun c o e => by rw [upd_ne (ne_of_none e nt)]; exact e
  have k3 : Same (upd H2 t (.tup [.ref a, .ref b])) H5 := sa'.trans sb'
  have k4 : Same H5 (upd H5 t' (.tup [.ref a', .ref b'])) := fun c o e => by rw [upd_ne (ne_of_none e nt')]; exact e
  have k5 : Same (upd H5 t' (.tup [.ref a', .ref b'])) (upd (upd H5 t' (.tup [.ref a', .ref b'])) q (.lst [.ref t, .ref t'])) := fun c o e => by rw [upd_ne (ne_of_none e nq)]; exact e
  have k35 := (k3.trans k4).trans k5
  have all := (k1.trans k2).trans k35
  refine ⟨l, q, _, _, rfl, rfl, all _ _ hl, upd_same, (by rw [sizeLine_eq, List.length_map]; show ts.length + 2 ≤ _; omega), ?_⟩
  have P1 : PairAt (upd (upd H5 t' (.tup [.ref a', .ref b'])) q (.lst [.ref t, .ref t'])) t C f v :=
    ⟨a, b, k35 _ _ upd_same, ((ea.same sb).same k2).same k35, (eb.same k2).same k35⟩
  have P2 : PairAt (upd (upd H5 t' (.tup [.ref a', .ref b'])) q (.lst [.ref t, .ref t'])) t' C' f' v :=
    ⟨a', b', k5 _ _ upd_same, ((ea'.same sb').same k4).same k5, (eb'.same k4).same k5⟩
  have Bk : Bl l (upd (upd H5 t' (.tup [.ref a', .ref b'])) q (.lst [.ref t, .ref t'])) (upd (upd (upd H5 t' (.tup [.ref a', .ref b'])) q (.lst [.ref t, .ref t'])) l (.lst (ts.map V.ref ++ [.ref t, .ref t']))) :=
    fun c o n e => by rw [upd_ne n]; exact e
  refine go _ t t' ((Bl.of all).trans Bk) ?_ (Bk.pair (all _ _ hl) P1) (Bk.pair (all _ _ hl) P2)
  rw [upd_same]; simp
theorem ps_imp {X : Cx} {st : Stmt} {t u : TS} (p : PS X st t) (h : ∀ D σ H, u D σ H → t D σ H) : PS X st u :=
  ⟨fun pins s σ H D I z => p.run pins s σ H D I (h D σ H z)⟩
end L2.EV

namespace L2.EV
open PySem PySem.Spec PyProof.Rows _root_.EV
/-- j steps are done: the list at l holds 2 * j pairs -/
structure PSt (cl : Nat → Addr) (x : V) (l : Addr) (H0 : Hp) (j : Nat) (ts : List Addr) (H : Hp) : Prop where
  o : H l = some (.lst (ts.map V.ref))
  n : ts.length = 2 * j
  p : ∀ i t, ts[i]? = some t → PairAt H t (cl i) (fl i) x
  old : Same H0 H
  new : H0 l = none
theorem pst_step {cl : Nat → Addr} {x : V} {l : Addr} {H0 H : Hp} {j : Nat} {ts : List Addr} {D : Ends} (S : PSt cl x l H0 j ts H) (hj : j < 100)
    (k : ∀ ts' H', PSt cl x l H0 (j + 1) ts' H' → D.nx [some x, some (.ref l)] H') :
    tPair2 (cl (2 * j)) (fl (2 * j)) (cl (2 * j + 1)) (fl (2 * j + 1)) D [some x, some (.ref l)] H := by
  refine ⟨l, ts, x, rfl, rfl, S.o, by have := S.n; omega, fun H' t t' B o p1 p2 => k (ts ++ [t, t']) H' ⟨o, ?_, fun i u e => ?_, fun c q e => ?_, S.new⟩⟩
  · rw [List.length_append, S.n]; show 2 * j + 2 = _; omega
  · by_cases h : i < ts.length
    · rw [List.getElem?_append_left h] at e
      exact B.pair S.o (S.p i u e)
    · rw [List.getElem?_append_right (by omega)] at e
      have hn := S.n
      by_cases h0 : i = 2 * j
      · subst h0
        have e1 : (2 * j - ts.length) = 0 := by omega
        rw [e1] at e
        obtain rfl : t = u := by simpa using e
        exact p1
      · by_cases h1 : i = 2 * j + 1
        · subst h1
          have e1 : (2 * j + 1 - ts.length) = 1 := by omega
          rw [e1] at e
          obtain rfl : t' = u := by simpa using e
          exact p2
        · exfalso
          have e1 : ¬ (i - ts.length < 2) := by omega
          rw [List.getElem?_eq_none (by show 2 ≤ _; omega)] at e
          cases e
  · exact B c q (fun z => by rw [z, S.new] at e; cases e) (S.old c q e)
/-- what is handed back -/
def spPairs (cl : Nat → Addr) : Sp := fun vs H Q _ => ∃ x, vs = [x] ∧ ∀ l ts H', PSt cl x l H 28 ts H' → Q (.ref l) H'
theorem scPairs : FnScope ["x", "found"] ["x"] (defScope sPairs) := ⟨rfl, rfl, rfl, by decide +kernel, rfl, by decide +kernel, by decide +kernel⟩
def tPairs (cl : Nat → Addr) : Nat → Nat → TS
  | 0, _ => tRet (tVar 1)
  | n + 1, j => tSeq (tPair2 (cl (2 * j)) (fl (2 * j)) (cl (2 * j + 1)) (fl (2 * j + 1))) (tPairs cl n (j + 1))
theorem tPairs_ok {cl : Nat → Addr} {x : V} {l : Addr} {H0 : Hp} {Q : VK} (k : ∀ ts H', PSt cl x l H0 28 ts H' → Q (.ref l) H') : ∀ (n j : Nat) (ts : List Addr) (H : Hp), j + n = 28 → PSt cl x l H0 j ts H →
    tPairs cl n j { nx := fun _ H' => Q .non H', rt := Q } [some x, some (.ref l)] H
  | 0, j, ts, H, e, S => by
    have e' : j = 28 := by omega
    subst e'
    exact ⟨_, rfl, k ts H S⟩
  | n + 1, j, ts, H, e, S => by
    show tPair2 _ _ _ _ _ _ _
    exact pst_step S (by omega) fun ts' H' S' => tPairs_ok k n (j + 1) ts' H' (by omega) S'
section
variable {P : Program} {w : World} {K : PySem.W.Frag} {mg : Str → Option Value} {base : Heap} {f : Addr} {fd : FuncData} {cl ini : Nat → Addr}
theorem ok_pairs (F : Fun K "_law_pairs" "_law_pairs" sPairs f fd) (T : Tx K mg cl ini) : FnOk P w K mg base CX0 3 f fd ["x"] (spPairs cl) := by
  refine F.ok scPairs (fun vs H Q E h => by obtain ⟨x, e, _⟩ := h; rw [e]; rfl) fun cdv A outer s H vs Q E hr hsp => ?_
  obtain ⟨x, rfl, hq⟩ := hsp
  have nd := scPairs.nd
  refine ⟨tSeq (tAsg (tLst tNil) (gName 1)) (tPairs cl 28 0), pss_cons (ps_set (i := 1) nd rfl (Or.inl rfl) (pe_lst pa_nil))
    (pss_cons (ps_imp (ps_expr (pe_bm PySem.F.plainAttrs_list PySem.F.slot_list_extend PySem.F.type_list_extend mt_extend (pv 1) (pa_cons (pe_lst (pa_cons
      (pe_tup (pa_cons (pe_err fld_thing (T.err 0 (by decide)) hr (pv 0)) (pa_cons (pe_errK fld_thing (T.err 0 (by decide)) hr (pv 0)) pa_nil))) (pa_cons
      (pe_tup (pa_cons (pe_err fld_index (T.err 1 (by decide)) hr (pv 0)) (pa_cons (pe_errK fld_index (T.err 1 (by decide)) hr (pv 0)) pa_nil))) pa_nil))) pa_nil))) (fun D σ H z => pair2_imp z))
    (pss_cons (ps_imp (ps_expr (pe_bm PySem.F.plainAttrs_list PySem.F.slot_list_extend PySem.F.type_list_extend mt_extend (pv 1) (pa_cons (pe_lst (pa_cons
      (pe_tup (pa_cons (pe_err fld_name (T.err 2 (by decide)) hr (pv 0)) (pa_cons (pe_errK fld_name (T.err 2 (by decide)) hr (pv 0)) pa_nil))) (pa_cons
      (pe_tup (pa_cons (pe_err fld_thing (T.err 3 (by decide)) hr (pv 0)) (pa_cons (pe_errK fld_thing (T.err 3 (by decide)) hr (pv 0)) pa_nil))) pa_nil))) pa_nil))) (fun D σ H z => pair2_imp z))
    (pss_cons (ps_imp (ps_expr (pe_bm PySem.F.plainAttrs_list PySem.F.slot_list_extend PySem.F.type_list_extend mt_extend (pv 1) (pa_cons (pe_lst (pa_cons
      (pe_tup (pa_cons (pe_err fld_thing (T.err 4 (by decide)) hr (pv 0)) (pa_cons (pe_errK fld_thing (T.err 4 (by decide)) hr (pv 0)) pa_nil))) (pa_cons
      (pe_tup (pa_cons (pe_err fld_name (T.err 5 (by decide)) hr (pv 0)) (pa_cons (pe_errK fld_name (T.err 5 (by decide)) hr (pv 0)) pa_nil))) pa_nil))) pa_nil))) (fun D σ H z => pair2_imp z))
    (pss_cons (ps_imp (ps_expr (pe_bm PySem.F.plainAttrs_list PySem.F.slot_list_extend PySem.F.type_list_extend mt_extend (pv 1) (pa_cons (pe_lst (pa_cons
      (pe_tup (pa_cons (pe_err fld_index (T.err 6 (by decide)) hr (pv 0)) (pa_cons (pe_errK fld_index (T.err 6 (by decide)) hr (pv 0)) pa_nil))) (pa_cons
      (pe_tup (pa_cons (pe_err fld_name (T.err 7 (by decide)) hr (pv 0)) (pa_cons (pe_errK fld_name (T.err 7 (by decide)) hr (pv 0)) pa_nil))) pa_nil))) pa_nil))) (fun D σ H z => pair2_imp z))
    (pss_cons (ps_imp (ps_expr (pe_bm PySem.F.plainAttrs_list PySem.F.slot_list_extend PySem.F.type_list_extend mt_extend (pv 1) (pa_cons (pe_lst (pa_cons
      (pe_tup (pa_cons (pe_err fld_thing (T.err 8 (by decide)) hr (pv 0)) (pa_cons (pe_errK fld_thing (T.err 8 (by decide)) hr (pv 0)) pa_nil))) (pa_cons
      (pe_tup (pa_cons (pe_err fld_name (T.err 9 (by decide)) hr (pv 0)) (pa_cons (pe_errK fld_name (T.err 9 (by decide)) hr (pv 0)) pa_nil))) pa_nil))) pa_nil))) (fun D σ H z => pair2_imp z))
    (pss_cons (ps_imp (ps_expr (pe_bm PySem.F.plainAttrs_list PySem.F.slot_list_extend PySem.F.type_list_extend mt_extend (pv 1) (pa_cons (pe_lst (pa_cons
      (pe_tup (pa_cons (pe_err fld_name (T.err 10 (by decide)) hr (pv 0)) (pa_cons (pe_errK fld_name (T.err 10 (by decide)) hr (pv 0)) pa_nil))) (pa_cons
      (pe_tup (pa_cons (pe_err fld_index (T.err 11 (by decide)) hr (pv 0)) (pa_cons (pe_errK fld_index (T.err 11 (by decide)) hr (pv 0)) pa_nil))) pa_nil))) pa_nil))) (fun D σ H z => pair2_imp z))
    (pss_cons (ps_imp (ps_expr (pe_bm PySem.F.plainAttrs_list PySem.F.slot_list_extend PySem.F.type_list_extend mt_extend (pv 1) (pa_cons (pe_lst (pa_cons
      (pe_tup (pa_cons (pe_err fld_thing (T.err 12 (by decide)) hr (pv 0)) (pa_cons (pe_errK fld_thing (T.err 12 (by decide)) hr (pv 0)) pa_nil))) (pa_cons
      (pe_tup (pa_cons (pe_err fld_index (T.err 13 (by decide)) hr (pv 0)) (pa_cons (pe_errK fld_index (T.err 13 (by decide)) hr (pv 0)) pa_nil))) pa_nil))) pa_nil))) (fun D σ H z => pair2_imp z))
    (pss_cons (ps_imp (ps_expr (pe_bm PySem.F.plainAttrs_list PySem.F.slot_list_extend PySem.F.type_list_extend mt_extend (pv 1) (pa_cons (pe_lst (pa_cons
      (pe_tup (pa_cons (pe_err fld_name (T.err 14 (by decide)) hr (pv 0)) (pa_cons (pe_errK fld_name (T.err 14 (by decide)) hr (pv 0)) pa_nil))) (pa_cons
      (pe_tup (pa_cons (pe_err fld_state (T.err 15 (by decide)) hr (pv 0)) (pa_cons (pe_errK fld_state (T.err 15 (by decide)) hr (pv 0)) pa_nil))) pa_nil))) pa_nil))) (fun D σ H z => pair2_imp z))
    (pss_cons (ps_imp (ps_expr (pe_bm PySem.F.plainAttrs_list PySem.F.slot_list_extend PySem.F.type_list_extend mt_extend (pv 1) (pa_cons (pe_lst (pa_cons
      (pe_tup (pa_cons (pe_err fld_name (T.err 16 (by decide)) hr (pv 0)) (pa_cons (pe_errK fld_name (T.err 16 (by decide)) hr (pv 0)) pa_nil))) (pa_cons
      (pe_tup (pa_cons (pe_err fld_name (T.err 17 (by decide)) hr (pv 0)) (pa_cons (pe_errK fld_name (T.err 17 (by decide)) hr (pv 0)) pa_nil))) pa_nil))) pa_nil))) (fun D σ H z => pair2_imp z))
    (pss_cons (ps_imp (ps_expr (pe_bm PySem.F.plainAttrs_list PySem.F.slot_list_extend PySem.F.type_list_extend mt_extend (pv 1) (pa_cons (pe_lst (pa_cons
      (pe_tup (pa_cons (pe_err fld_name (T.err 18 (by decide)) hr (pv 0)) (pa_cons (pe_errK fld_name (T.err 18 (by decide)) hr (pv 0)) pa_nil))) (pa_cons
      (pe_tup (pa_cons (pe_err fld_index (T.err 19 (by decide)) hr (pv 0)) (pa_cons (pe_errK fld_index (T.err 19 (by decide)) hr (pv 0)) pa_nil))) pa_nil))) pa_nil))) (fun D σ H z => pair2_imp z))
    (pss_cons (ps_imp (ps_expr (pe_bm PySem.F.plainAttrs_list PySem.F.slot_list_extend PySem.F.type_list_extend mt_extend (pv 1) (pa_cons (pe_lst (pa_cons
      (pe_tup (pa_cons (pe_err fld_thing (T.err 20 (by decide)) hr (pv 0)) (pa_cons (pe_errK fld_thing (T.err 20 (by decide)) hr (pv 0)) pa_nil))) (pa_cons
      (pe_tup (pa_cons (pe_err fld_sign (T.err 21 (by decide)) hr (pv 0)) (pa_cons (pe_errK fld_sign (T.err 21 (by decide)) hr (pv 0)) pa_nil))) pa_nil))) pa_nil))) (fun D σ H z => pair2_imp z))
    (pss_cons (ps_imp (ps_expr (pe_bm PySem.F.plainAttrs_list PySem.F.slot_list_extend PySem.F.type_list_extend mt_extend (pv 1) (pa_cons (pe_lst (pa_cons
      (pe_tup (pa_cons (pe_err fld_index (T.err 22 (by decide)) hr (pv 0)) (pa_cons (pe_errK fld_index (T.err 22 (by decide)) hr (pv 0)) pa_nil))) (pa_cons
      (pe_tup (pa_cons (pe_err fld_name (T.err 23 (by decide)) hr (pv 0)) (pa_cons (pe_errK fld_name (T.err 23 (by decide)) hr (pv 0)) pa_nil))) pa_nil))) pa_nil))) (fun D σ H z => pair2_imp z))
    (pss_cons (ps_imp (ps_expr (pe_bm PySem.F.plainAttrs_list PySem.F.slot_list_extend PySem.F.type_list_extend mt_extend (pv 1) (pa_cons (pe_lst (pa_cons
      (pe_tup (pa_cons (pe_err fld_prime (T.err 24 (by decide)) hr (pv 0)) (pa_cons (pe_errK fld_prime (T.err 24 (by decide)) hr (pv 0)) pa_nil))) (pa_cons
      (pe_tup (pa_cons (pe_err fld_index (T.err 25 (by decide)) hr (pv 0)) (pa_cons (pe_errK fld_index (T.err 25 (by decide)) hr (pv 0)) pa_nil))) pa_nil))) pa_nil))) (fun D σ H z => pair2_imp z))
    (pss_cons (ps_imp (ps_expr (pe_bm PySem.F.plainAttrs_list PySem.F.slot_list_extend PySem.F.type_list_extend mt_extend (pv 1) (pa_cons (pe_lst (pa_cons
      (pe_tup (pa_cons (pe_err fld_thing (T.err 26 (by decide)) hr (pv 0)) (pa_cons (pe_errK fld_thing (T.err 26 (by decide)) hr (pv 0)) pa_nil))) (pa_cons
      (pe_tup (pa_cons (pe_err fld_name (T.err 27 (by decide)) hr (pv 0)) (pa_cons (pe_errK fld_name (T.err 27 (by decide)) hr (pv 0)) pa_nil))) pa_nil))) pa_nil))) (fun D σ H z => pair2_imp z))
    (pss_cons (ps_imp (ps_expr (pe_bm PySem.F.plainAttrs_list PySem.F.slot_list_extend PySem.F.type_list_extend mt_extend (pv 1) (pa_cons (pe_lst (pa_cons
      (pe_tup (pa_cons (pe_err fld_index (T.err 28 (by decide)) hr (pv 0)) (pa_cons (pe_errK fld_index (T.err 28 (by decide)) hr (pv 0)) pa_nil))) (pa_cons
      (pe_tup (pa_cons (pe_err fld_name (T.err 29 (by decide)) hr (pv 0)) (pa_cons (pe_errK fld_name (T.err 29 (by decide)) hr (pv 0)) pa_nil))) pa_nil))) pa_nil))) (fun D σ H z => pair2_imp z))
    (pss_cons (ps_imp (ps_expr (pe_bm PySem.F.plainAttrs_list PySem.F.slot_list_extend PySem.F.type_list_extend mt_extend (pv 1) (pa_cons (pe_lst (pa_cons
      (pe_tup (pa_cons (pe_err fld_name (T.err 30 (by decide)) hr (pv 0)) (pa_cons (pe_errK fld_name (T.err 30 (by decide)) hr (pv 0)) pa_nil))) (pa_cons
      (pe_tup (pa_cons (pe_err fld_name (T.err 31 (by decide)) hr (pv 0)) (pa_cons (pe_errK fld_name (T.err 31 (by decide)) hr (pv 0)) pa_nil))) pa_nil))) pa_nil))) (fun D σ H z => pair2_imp z))
    (pss_cons (ps_imp (ps_expr (pe_bm PySem.F.plainAttrs_list PySem.F.slot_list_extend PySem.F.type_list_extend mt_extend (pv 1) (pa_cons (pe_lst (pa_cons
      (pe_tup (pa_cons (pe_err fld_name (T.err 32 (by decide)) hr (pv 0)) (pa_cons (pe_errK fld_name (T.err 32 (by decide)) hr (pv 0)) pa_nil))) (pa_cons
      (pe_tup (pa_cons (pe_err fld_thing (T.err 33 (by decide)) hr (pv 0)) (pa_cons (pe_errK fld_thing (T.err 33 (by decide)) hr (pv 0)) pa_nil))) pa_nil))) pa_nil))) (fun D σ H z => pair2_imp z))
    (pss_cons (ps_imp (ps_expr (pe_bm PySem.F.plainAttrs_list PySem.F.slot_list_extend PySem.F.type_list_extend mt_extend (pv 1) (pa_cons (pe_lst (pa_cons
      (pe_tup (pa_cons (pe_err fld_name (T.err 34 (by decide)) hr (pv 0)) (pa_cons (pe_errK fld_name (T.err 34 (by decide)) hr (pv 0)) pa_nil))) (pa_cons
      (pe_tup (pa_cons (pe_err fld_name (T.err 35 (by decide)) hr (pv 0)) (pa_cons (pe_errK fld_name (T.err 35 (by decide)) hr (pv 0)) pa_nil))) pa_nil))) pa_nil))) (fun D σ H z => pair2_imp z))
    (pss_cons (ps_imp (ps_expr (pe_bm PySem.F.plainAttrs_list PySem.F.slot_list_extend PySem.F.type_list_extend mt_extend (pv 1) (pa_cons (pe_lst (pa_cons
      (pe_tup (pa_cons (pe_err fld_name (T.err 36 (by decide)) hr (pv 0)) (pa_cons (pe_errK fld_name (T.err 36 (by decide)) hr (pv 0)) pa_nil))) (pa_cons
      (pe_tup (pa_cons (pe_err fld_index (T.err 37 (by decide)) hr (pv 0)) (pa_cons (pe_errK fld_index (T.err 37 (by decide)) hr (pv 0)) pa_nil))) pa_nil))) pa_nil))) (fun D σ H z => pair2_imp z))
    (pss_cons (ps_imp (ps_expr (pe_bm PySem.F.plainAttrs_list PySem.F.slot_list_extend PySem.F.type_list_extend mt_extend (pv 1) (pa_cons (pe_lst (pa_cons
      (pe_tup (pa_cons (pe_err fld_index (T.err 38 (by decide)) hr (pv 0)) (pa_cons (pe_errK fld_index (T.err 38 (by decide)) hr (pv 0)) pa_nil))) (pa_cons
      (pe_tup (pa_cons (pe_err fld_thing (T.err 39 (by decide)) hr (pv 0)) (pa_cons (pe_errK fld_thing (T.err 39 (by decide)) hr (pv 0)) pa_nil))) pa_nil))) pa_nil))) (fun D σ H z => pair2_imp z))
    (pss_cons (ps_imp (ps_expr (pe_bm PySem.F.plainAttrs_list PySem.F.slot_list_extend PySem.F.type_list_extend mt_extend (pv 1) (pa_cons (pe_lst (pa_cons
      (pe_tup (pa_cons (pe_err fld_name (T.err 40 (by decide)) hr (pv 0)) (pa_cons (pe_errK fld_name (T.err 40 (by decide)) hr (pv 0)) pa_nil))) (pa_cons
      (pe_tup (pa_cons (pe_err fld_name (T.err 41 (by decide)) hr (pv 0)) (pa_cons (pe_errK fld_name (T.err 41 (by decide)) hr (pv 0)) pa_nil))) pa_nil))) pa_nil))) (fun D σ H z => pair2_imp z))
    (pss_cons (ps_imp (ps_expr (pe_bm PySem.F.plainAttrs_list PySem.F.slot_list_extend PySem.F.type_list_extend mt_extend (pv 1) (pa_cons (pe_lst (pa_cons
      (pe_tup (pa_cons (pe_err fld_thing (T.err 42 (by decide)) hr (pv 0)) (pa_cons (pe_errK fld_thing (T.err 42 (by decide)) hr (pv 0)) pa_nil))) (pa_cons
      (pe_tup (pa_cons (pe_err fld_line (T.err 43 (by decide)) hr (pv 0)) (pa_cons (pe_errK fld_line (T.err 43 (by decide)) hr (pv 0)) pa_nil))) pa_nil))) pa_nil))) (fun D σ H z => pair2_imp z))
    (pss_cons (ps_imp (ps_expr (pe_bm PySem.F.plainAttrs_list PySem.F.slot_list_extend PySem.F.type_list_extend mt_extend (pv 1) (pa_cons (pe_lst (pa_cons
      (pe_tup (pa_cons (pe_err fld_index (T.err 44 (by decide)) hr (pv 0)) (pa_cons (pe_errK fld_index (T.err 44 (by decide)) hr (pv 0)) pa_nil))) (pa_cons
      (pe_tup (pa_cons (pe_err fld_name (T.err 45 (by decide)) hr (pv 0)) (pa_cons (pe_errK fld_name (T.err 45 (by decide)) hr (pv 0)) pa_nil))) pa_nil))) pa_nil))) (fun D σ H z => pair2_imp z))
    (pss_cons (ps_imp (ps_expr (pe_bm PySem.F.plainAttrs_list PySem.F.slot_list_extend PySem.F.type_list_extend mt_extend (pv 1) (pa_cons (pe_lst (pa_cons
      (pe_tup (pa_cons (pe_err fld_index (T.err 46 (by decide)) hr (pv 0)) (pa_cons (pe_errK fld_index (T.err 46 (by decide)) hr (pv 0)) pa_nil))) (pa_cons
      (pe_tup (pa_cons (pe_err fld_index (T.err 47 (by decide)) hr (pv 0)) (pa_cons (pe_errK fld_index (T.err 47 (by decide)) hr (pv 0)) pa_nil))) pa_nil))) pa_nil))) (fun D σ H z => pair2_imp z))
    (pss_cons (ps_imp (ps_expr (pe_bm PySem.F.plainAttrs_list PySem.F.slot_list_extend PySem.F.type_list_extend mt_extend (pv 1) (pa_cons (pe_lst (pa_cons
      (pe_tup (pa_cons (pe_err fld_thing (T.err 48 (by decide)) hr (pv 0)) (pa_cons (pe_errK fld_thing (T.err 48 (by decide)) hr (pv 0)) pa_nil))) (pa_cons
      (pe_tup (pa_cons (pe_err fld_thing (T.err 49 (by decide)) hr (pv 0)) (pa_cons (pe_errK fld_thing (T.err 49 (by decide)) hr (pv 0)) pa_nil))) pa_nil))) pa_nil))) (fun D σ H z => pair2_imp z))
    (pss_cons (ps_imp (ps_expr (pe_bm PySem.F.plainAttrs_list PySem.F.slot_list_extend PySem.F.type_list_extend mt_extend (pv 1) (pa_cons (pe_lst (pa_cons
      (pe_tup (pa_cons (pe_err fld_name (T.err 50 (by decide)) hr (pv 0)) (pa_cons (pe_errK fld_name (T.err 50 (by decide)) hr (pv 0)) pa_nil))) (pa_cons
      (pe_tup (pa_cons (pe_err fld_name (T.err 51 (by decide)) hr (pv 0)) (pa_cons (pe_errK fld_name (T.err 51 (by decide)) hr (pv 0)) pa_nil))) pa_nil))) pa_nil))) (fun D σ H z => pair2_imp z))
    (pss_cons (ps_imp (ps_expr (pe_bm PySem.F.plainAttrs_list PySem.F.slot_list_extend PySem.F.type_list_extend mt_extend (pv 1) (pa_cons (pe_lst (pa_cons
      (pe_tup (pa_cons (pe_err fld_name (T.err 52 (by decide)) hr (pv 0)) (pa_cons (pe_errK fld_name (T.err 52 (by decide)) hr (pv 0)) pa_nil))) (pa_cons
      (pe_tup (pa_cons (pe_err fld_index (T.err 53 (by decide)) hr (pv 0)) (pa_cons (pe_errK fld_index (T.err 53 (by decide)) hr (pv 0)) pa_nil))) pa_nil))) pa_nil))) (fun D σ H z => pair2_imp z))
    (pss_cons (ps_imp (ps_expr (pe_bm PySem.F.plainAttrs_list PySem.F.slot_list_extend PySem.F.type_list_extend mt_extend (pv 1) (pa_cons (pe_lst (pa_cons
      (pe_tup (pa_cons (pe_err fld_name (T.err 54 (by decide)) hr (pv 0)) (pa_cons (pe_errK fld_name (T.err 54 (by decide)) hr (pv 0)) pa_nil))) (pa_cons
      (pe_tup (pa_cons (pe_err fld_index (T.err 55 (by decide)) hr (pv 0)) (pa_cons (pe_errK fld_index (T.err 55 (by decide)) hr (pv 0)) pa_nil))) pa_nil))) pa_nil))) (fun D σ H z => pair2_imp z))
    (pss_one (ps_ret (pv 1))))))))))))))))))))))))))))))), ?_⟩
  refine ⟨Nat.zero_le _, fun l nl => ?_⟩
  exact tPairs_ok (H0 := H) (fun ts H' S => hq l ts H' S) 28 0 [] _ rfl ⟨upd_same, rfl, fun i t e => by simp at e, fun c o e => by rw [upd_ne (ne_of_none e nl)]; exact e, nl⟩
end
end L2.EV

namespace L2.EV
open PySem PySem.Spec PyProof.Rows _root_.EV
/-- the errors of one half, in order -/
structure Row (cl : Nat → Addr) (x : V) (H : Hp) (es : List Addr) : Prop where
  n : es.length = 56
  e : ∀ i a, es[i]? = some a → ErrAt H a (cl i) [(fl i, x)]
theorem Row.same {cl : Nat → Addr} {x : V} {H H' : Hp} {es : List Addr} (r : Row cl x H es) (s : Same H H') : Row cl x H' es := ⟨r.n, fun i a e => (r.e i a e).same s⟩
structure HSt (cl : Nat → Addr) (x : V) (e l : Addr) (es : List Addr) (H0 : Hp) (j : Nat) (H : Hp) : Prop where
  le : H e = some (.lst (es.map V.ref))
  r : Row cl x H es
  o : H l = some (.lst (List.replicate (4 * j) x))
  old : Same H0 H
  new : H0 l = none
  ne : e ≠ l
def tEl (K : PySem.W.Frag) (f : Str) (i : Int) : TE := tErrF K f (tOp (rIxL K) (tVar 0) (tC (.int i)))
theorem el_ok {K : PySem.W.Frag} {mg : Str → Option Value} {cl ini : Nat → Addr} {x : V} {e : Addr} {es : List Addr} {H : Hp} {σ : St} {Q : VK} (T : Tx K mg cl ini) (i : Nat) (hi : i < 56) (r : Row cl x H es) (le : H e = some (.lst (es.map V.ref)))
    (h0 : σ[0]? = some (some (.ref e))) (q : Q x H) : tEl K (fl i) (i : Int) σ H Q := by
  have hn := r.n
  have hi2 : i < es.length := by omega
  have ei : es[i]? = some es[i] := by simp
  refine ⟨_, h0, _, _, _, V.ref es[i], rfl, rfl, SqL.of le, atI_nat (by simp), es[i], cl i, _, x, rfl, (T.err i hi).fld, (T.err i hi).noF, r.e i _ ei, ?_, q⟩
  simp [List.lookup]
def tHeld4 (K : PySem.W.Frag) (j : Nat) : TE := tBM K "list" rExtend (tVar 1)
  (tCons (tLst (tCons (tEl K (fl (4 * j)) ((4 * j : Nat) : Int)) (tCons (tEl K (fl (4 * j + 1)) ((4 * j + 1 : Nat) : Int)) (tCons (tEl K (fl (4 * j + 2)) ((4 * j + 2 : Nat) : Int)) (tCons (tEl K (fl (4 * j + 3)) ((4 * j + 3 : Nat) : Int)) tNil))))) tNil)
theorem held_step {K : PySem.W.Frag} {mg : Str → Option Value} {cl ini : Nat → Addr} {x : V} {e l : Addr} {es : List Addr} {H0 H : Hp} {j : Nat} {Q : Hp → Prop} (T : Tx K mg cl ini) (hj : j < 14) (S : HSt cl x e l es H0 j H)
    (k : ∀ H', HSt cl x e l es H0 (j + 1) H' → Q H') : tHeld4 K j [some (.ref e), some (.ref l)] H fun _ H' => Q H' := by
  refine ⟨_, rfl, .inl ⟨rfl, _, SqL.of S.o⟩, ?_⟩
  refine el_ok T _ (by omega) S.r S.le rfl ?_
  refine el_ok T _ (by omega) S.r S.le rfl ?_
  refine el_ok T _ (by omega) S.r S.le rfl ?_
  refine el_ok T _ (by omega) S.r S.le rfl ?_
  refine ⟨(by rw [sizeLine_eq]; show 4 ≤ _; omega), fun q nq => ?_⟩
  have k1 : Same H (upd H q (.lst [x, x, x, x])) := fun c o z => by rw [upd_ne (ne_of_none z nq)]; exact z
  have nl : q ≠ l := by intro z; rw [z, S.o] at nq; cases nq
  refine ⟨l, q, _, _, rfl, rfl, k1 _ _ S.o, upd_same, (by rw [sizeLine_eq]; simp; omega), ?_⟩
  have B : Bl l (upd H q (.lst [x, x, x, x])) (upd (upd H q (.lst [x, x, x, x])) l (.lst (List.replicate (4 * j) x ++ [x, x, x, x]))) := fun c o n z => by rw [upd_ne n]; exact z
  refine k _ ⟨B _ _ S.ne (k1 _ _ S.le), ⟨S.r.n, fun i a z => B.err (k1 _ _ S.o) ((S.r.e i a z).same k1)⟩, ?_, fun c o z => B c o (fun y => by rw [y, S.new] at z; cases z) (k1 _ _ (S.old c o z)), S.new, S.ne⟩
  rw [upd_same]
  have e1 : [x, x, x, x] = List.replicate 4 x := rfl
  rw [e1, List.replicate_append_replicate]
  rfl
def spHeld (cl : Nat → Addr) : Sp := fun vs H Q _ => ∃ (e : Addr) (es : List Addr) (x : V), vs = [.ref e] ∧ H e = some (.lst (es.map V.ref)) ∧ Row cl x H es ∧
  ∀ l H', H l = none → Same H H' → H' l = some (.lst (List.replicate 56 x)) → Q (.ref l) H'
theorem scHeld : FnScope ["errors", "found"] ["errors"] (defScope sHeld) := ⟨rfl, rfl, rfl, by decide +kernel, rfl, by decide +kernel, by decide +kernel⟩
def tHeld (K : PySem.W.Frag) : Nat → Nat → TS
  | 0, _ => tRet (tVar 1)
  | n + 1, j => tSeq (tDrop (tHeld4 K j)) (tHeld K n (j + 1))
theorem tHeld_ok {K : PySem.W.Frag} {mg : Str → Option Value} {cl ini : Nat → Addr} {x : V} {e l : Addr} {es : List Addr} {H0 : Hp} {Q : VK} (T : Tx K mg cl ini) (k : ∀ H', HSt cl x e l es H0 14 H' → Q (.ref l) H') : ∀ (n j : Nat) (H : Hp), j + n = 14 → HSt cl x e l es H0 j H →
    tHeld K n j { nx := fun _ H' => Q .non H', rt := Q } [some (.ref e), some (.ref l)] H
  | 0, j, H, e1, S => by
    have e' : j = 14 := by omega
    subst e'
    exact ⟨_, rfl, k H S⟩
  | n + 1, j, H, e1, S => by
    show tHeld4 _ _ _ _ _
    exact held_step T (by omega) S fun H' S' => tHeld_ok T k n (j + 1) H' (by omega) S'
section
variable {P : Program} {w : World} {K : PySem.W.Frag} {mg : Str → Option Value} {base : Heap} {f : Addr} {fd : FuncData} {cl ini : Nat → Addr}
theorem ok_held (F : Fun K "_law_held" "_law_held" sHeld f fd) (T : Tx K mg cl ini) : FnOk P w K mg base CX0 1 f fd ["errors"] (spHeld cl) := by
  refine F.ok scHeld (fun vs H Q E h => by obtain ⟨e, es, x, h, _⟩ := h; rw [h]; rfl) fun cdv A outer s H vs Q E hr hsp => ?_
  obtain ⟨e, es, x, rfl, he, r, hq⟩ := hsp
  have nd := scHeld.nd
  refine ⟨tSeq (tAsg (tLst tNil) (gName 1)) (tHeld K 14 0), pss_cons (ps_set (i := 1) nd rfl (Or.inl rfl) (pe_lst pa_nil))
    (pss_cons (ps_expr (pe_bm PySem.F.plainAttrs_list PySem.F.slot_list_extend PySem.F.type_list_extend mt_extend (pv 1) (pa_cons (pe_lst (pa_cons (pe_errf (pe_ix ix_list (pv 0) pe_int (fun _ _ => rfl))) (pa_cons (pe_errf (pe_ix ix_list (pv 0) pe_int (fun _ _ => rfl))) (pa_cons (pe_errf (pe_ix ix_list (pv 0) pe_int (fun _ _ => rfl))) (pa_cons (pe_errf (pe_ix ix_list (pv 0) pe_int (fun _ _ => rfl))) pa_nil))))) pa_nil)))
    (pss_cons (ps_expr (pe_bm PySem.F.plainAttrs_list PySem.F.slot_list_extend PySem.F.type_list_extend mt_extend (pv 1) (pa_cons (pe_lst (pa_cons (pe_errf (pe_ix ix_list (pv 0) pe_int (fun _ _ => rfl))) (pa_cons (pe_errf (pe_ix ix_list (pv 0) pe_int (fun _ _ => rfl))) (pa_cons (pe_errf (pe_ix ix_list (pv 0) pe_int (fun _ _ => rfl))) (pa_cons (pe_errf (pe_ix ix_list (pv 0) pe_int (fun _ _ => rfl))) pa_nil))))) pa_nil)))
    (pss_cons (ps_expr (pe_bm PySem.F.plainAttrs_list PySem.F.slot_list_extend PySem.F.type_list_extend mt_extend (pv 1) (pa_cons (pe_lst (pa_cons (pe_errf (pe_ix ix_list (pv 0) pe_int (fun _ _ => rfl))) (pa_cons (pe_errf (pe_ix ix_list (pv 0) pe_int (fun _ _ => rfl))) (pa_cons (pe_errf (pe_ix ix_list (pv 0) pe_int (fun _ _ => rfl))) (pa_cons (pe_errf (pe_ix ix_list (pv 0) pe_int (fun _ _ => rfl))) pa_nil))))) pa_nil)))
    (pss_cons (ps_expr (pe_bm PySem.F.plainAttrs_list PySem.F.slot_list_extend PySem.F.type_list_extend mt_extend (pv 1) (pa_cons (pe_lst (pa_cons (pe_errf (pe_ix ix_list (pv 0) pe_int (fun _ _ => rfl))) (pa_cons (pe_errf (pe_ix ix_list (pv 0) pe_int (fun _ _ => rfl))) (pa_cons (pe_errf (pe_ix ix_list (pv 0) pe_int (fun _ _ => rfl))) (pa_cons (pe_errf (pe_ix ix_list (pv 0) pe_int (fun _ _ => rfl))) pa_nil))))) pa_nil)))
    (pss_cons (ps_expr (pe_bm PySem.F.plainAttrs_list PySem.F.slot_list_extend PySem.F.type_list_extend mt_extend (pv 1) (pa_cons (pe_lst (pa_cons (pe_errf (pe_ix ix_list (pv 0) pe_int (fun _ _ => rfl))) (pa_cons (pe_errf (pe_ix ix_list (pv 0) pe_int (fun _ _ => rfl))) (pa_cons (pe_errf (pe_ix ix_list (pv 0) pe_int (fun _ _ => rfl))) (pa_cons (pe_errf (pe_ix ix_list (pv 0) pe_int (fun _ _ => rfl))) pa_nil))))) pa_nil)))
    (pss_cons (ps_expr (pe_bm PySem.F.plainAttrs_list PySem.F.slot_list_extend PySem.F.type_list_extend mt_extend (pv 1) (pa_cons (pe_lst (pa_cons (pe_errf (pe_ix ix_list (pv 0) pe_int (fun _ _ => rfl))) (pa_cons (pe_errf (pe_ix ix_list (pv 0) pe_int (fun _ _ => rfl))) (pa_cons (pe_errf (pe_ix ix_list (pv 0) pe_int (fun _ _ => rfl))) (pa_cons (pe_errf (pe_ix ix_list (pv 0) pe_int (fun _ _ => rfl))) pa_nil))))) pa_nil)))
    (pss_cons (ps_expr (pe_bm PySem.F.plainAttrs_list PySem.F.slot_list_extend PySem.F.type_list_extend mt_extend (pv 1) (pa_cons (pe_lst (pa_cons (pe_errf (pe_ix ix_list (pv 0) pe_int (fun _ _ => rfl))) (pa_cons (pe_errf (pe_ix ix_list (pv 0) pe_int (fun _ _ => rfl))) (pa_cons (pe_errf (pe_ix ix_list (pv 0) pe_int (fun _ _ => rfl))) (pa_cons (pe_errf (pe_ix ix_list (pv 0) pe_int (fun _ _ => rfl))) pa_nil))))) pa_nil)))
    (pss_cons (ps_expr (pe_bm PySem.F.plainAttrs_list PySem.F.slot_list_extend PySem.F.type_list_extend mt_extend (pv 1) (pa_cons (pe_lst (pa_cons (pe_errf (pe_ix ix_list (pv 0) pe_int (fun _ _ => rfl))) (pa_cons (pe_errf (pe_ix ix_list (pv 0) pe_int (fun _ _ => rfl))) (pa_cons (pe_errf (pe_ix ix_list (pv 0) pe_int (fun _ _ => rfl))) (pa_cons (pe_errf (pe_ix ix_list (pv 0) pe_int (fun _ _ => rfl))) pa_nil))))) pa_nil)))
    (pss_cons (ps_expr (pe_bm PySem.F.plainAttrs_list PySem.F.slot_list_extend PySem.F.type_list_extend mt_extend (pv 1) (pa_cons (pe_lst (pa_cons (pe_errf (pe_ix ix_list (pv 0) pe_int (fun _ _ => rfl))) (pa_cons (pe_errf (pe_ix ix_list (pv 0) pe_int (fun _ _ => rfl))) (pa_cons (pe_errf (pe_ix ix_list (pv 0) pe_int (fun _ _ => rfl))) (pa_cons (pe_errf (pe_ix ix_list (pv 0) pe_int (fun _ _ => rfl))) pa_nil))))) pa_nil)))
    (pss_cons (ps_expr (pe_bm PySem.F.plainAttrs_list PySem.F.slot_list_extend PySem.F.type_list_extend mt_extend (pv 1) (pa_cons (pe_lst (pa_cons (pe_errf (pe_ix ix_list (pv 0) pe_int (fun _ _ => rfl))) (pa_cons (pe_errf (pe_ix ix_list (pv 0) pe_int (fun _ _ => rfl))) (pa_cons (pe_errf (pe_ix ix_list (pv 0) pe_int (fun _ _ => rfl))) (pa_cons (pe_errf (pe_ix ix_list (pv 0) pe_int (fun _ _ => rfl))) pa_nil))))) pa_nil)))
    (pss_cons (ps_expr (pe_bm PySem.F.plainAttrs_list PySem.F.slot_list_extend PySem.F.type_list_extend mt_extend (pv 1) (pa_cons (pe_lst (pa_cons (pe_errf (pe_ix ix_list (pv 0) pe_int (fun _ _ => rfl))) (pa_cons (pe_errf (pe_ix ix_list (pv 0) pe_int (fun _ _ => rfl))) (pa_cons (pe_errf (pe_ix ix_list (pv 0) pe_int (fun _ _ => rfl))) (pa_cons (pe_errf (pe_ix ix_list (pv 0) pe_int (fun _ _ => rfl))) pa_nil))))) pa_nil)))
    (pss_cons (ps_expr (pe_bm PySem.F.plainAttrs_list PySem.F.slot_list_extend PySem.F.type_list_extend mt_extend (pv 1) (pa_cons (pe_lst (pa_cons (pe_errf (pe_ix ix_list (pv 0) pe_int (fun _ _ => rfl))) (pa_cons (pe_errf (pe_ix ix_list (pv 0) pe_int (fun _ _ => rfl))) (pa_cons (pe_errf (pe_ix ix_list (pv 0) pe_int (fun _ _ => rfl))) (pa_cons (pe_errf (pe_ix ix_list (pv 0) pe_int (fun _ _ => rfl))) pa_nil))))) pa_nil)))
    (pss_cons (ps_expr (pe_bm PySem.F.plainAttrs_list PySem.F.slot_list_extend PySem.F.type_list_extend mt_extend (pv 1) (pa_cons (pe_lst (pa_cons (pe_errf (pe_ix ix_list (pv 0) pe_int (fun _ _ => rfl))) (pa_cons (pe_errf (pe_ix ix_list (pv 0) pe_int (fun _ _ => rfl))) (pa_cons (pe_errf (pe_ix ix_list (pv 0) pe_int (fun _ _ => rfl))) (pa_cons (pe_errf (pe_ix ix_list (pv 0) pe_int (fun _ _ => rfl))) pa_nil))))) pa_nil)))
    (pss_cons (ps_expr (pe_bm PySem.F.plainAttrs_list PySem.F.slot_list_extend PySem.F.type_list_extend mt_extend (pv 1) (pa_cons (pe_lst (pa_cons (pe_errf (pe_ix ix_list (pv 0) pe_int (fun _ _ => rfl))) (pa_cons (pe_errf (pe_ix ix_list (pv 0) pe_int (fun _ _ => rfl))) (pa_cons (pe_errf (pe_ix ix_list (pv 0) pe_int (fun _ _ => rfl))) (pa_cons (pe_errf (pe_ix ix_list (pv 0) pe_int (fun _ _ => rfl))) pa_nil))))) pa_nil)))
    (pss_one (ps_ret (pv 1))))))))))))))))), ?_⟩
  refine ⟨Nat.zero_le _, fun l nl => ?_⟩
  have k1 : Same H (upd H l (.lst [])) := fun c o z => by rw [upd_ne (ne_of_none z nl)]; exact z
  have ne : e ≠ l := by intro z; rw [z, nl] at he; cases he
  exact tHeld_ok (H0 := H) T (fun H' S => hq l H' nl S.old S.o) 14 0 _ rfl ⟨k1 _ _ he, r.same k1, upd_same, k1, nl, ne⟩
end
end L2.EV

namespace L2.EV
open PySem PySem.Spec PyProof.Rows _root_.EV
/-- which class is which -/
structure Ty (K : PySem.W.Frag) (mg : Str → Option Value) (cl : Nat → Addr) (W : Addr) : Prop where
  g : ∀ i, i < 60 → mg (nm i) = some (.ref (cl i))
  x : ∀ i, i < 60 → ExcC K (cl i)
  kit : ∀ i j, i < 60 → j < 60 → PySem.W.kitOne K (.ref (cl i)) (.ref (cl j)) = some (decide (j = i))
  wg : mg "WorldError" = some (.ref W)
  kitW : ∀ i, i < 60 → PySem.W.kitOne K (.ref (cl i)) (.ref W) = some true
  kitV : ∀ i, i < 60 → PySem.W.kitOne K (.ref (cl i)) (.type "ValueError") = some true
def row (n k : Nat) : List V := (List.range k).map fun j => V.bl (decide (j = n))
theorem row_len (n k : Nat) : (row n k).length = k := by simp [row]
theorem row_succ (n k : Nat) : row n (k + 1) = row n k ++ [V.bl (decide (k = n))] := by
  unfold row; rw [List.range_succ, List.map_append]; rfl
theorem row_3 (n j : Nat) : row n (3 * j) ++ [V.bl (decide (3 * j = n)), V.bl (decide (3 * j + 1 = n)), V.bl (decide (3 * j + 2 = n))] = row n (3 * (j + 1)) := by
  show _ = row n (3 * j + 1 + 1 + 1)
  rw [row_succ, row_succ, row_succ]; simp
structure CSt (cl : Nat → Addr) (fs : List (Str × V)) (a l : Addr) (n : Nat) (H0 : Hp) (j : Nat) (H : Hp) : Prop where
  e : ErrAt H a (cl n) fs
  o : H l = some (.lst (row n (3 * j)))
  old : Same H0 H
  new : H0 l = none
def tIs (K : PySem.W.Frag) (C : Addr) : TE := tCB (rIsErr K) (tCons (tVar 0) (tCons (tC (.ref C)) tNil))
theorem is_ok {K : PySem.W.Frag} {mg : Str → Option Value} {cl : Nat → Addr} {W : Addr} {fs : List (Str × V)} {a : Addr} {n : Nat} {H : Hp} {σ : St} {Q : VK} (T : Ty K mg cl W) (hn : n < 60) (j : Nat) (hj : j < 60) (er : ErrAt H a (cl n) fs)
    (h0 : σ[0]? = some (some (.ref a))) (q : Q (.bl (decide (j = n))) H) : tIs K (cl j) σ H Q :=
  ⟨_, h0, a, cl n, fs, .ref (cl j), .ref (cl j), _, rfl, er, .own _, T.x n hn, T.kit n j hn hj, q⟩
def tCls3 (K : PySem.W.Frag) (cl : Nat → Addr) (j : Nat) : TE := tBM K "list" rExtend (tVar 1)
  (tCons (tLst (tCons (tIs K (cl (3 * j))) (tCons (tIs K (cl (3 * j + 1))) (tCons (tIs K (cl (3 * j + 2))) tNil)))) tNil)
theorem cls_step {K : PySem.W.Frag} {mg : Str → Option Value} {cl : Nat → Addr} {W : Addr} {fs : List (Str × V)} {a l : Addr} {n : Nat} {H0 H : Hp} {j : Nat} {Q : Hp → Prop} (T : Ty K mg cl W) (hn : n < 60) (hj : j < 20) (S : CSt cl fs a l n H0 j H)
    (k : ∀ H', CSt cl fs a l n H0 (j + 1) H' → Q H') : tCls3 K cl j [some (.ref a), some (.ref l)] H fun _ H' => Q H' := by
  refine ⟨_, rfl, .inl ⟨rfl, _, SqL.of S.o⟩, ?_⟩
  refine is_ok T hn _ (by omega) S.e rfl ?_
  refine is_ok T hn _ (by omega) S.e rfl ?_
  refine is_ok T hn _ (by omega) S.e rfl ?_
  refine ⟨(by rw [sizeLine_eq]; show 3 ≤ _; omega), fun q nq => ?_⟩
  generalize hx : ([V.bl (decide (3 * j = n)), V.bl (decide (3 * j + 1 = n)), V.bl (decide (3 * j + 2 = n))] : List V) = xs
  have hx3 : xs.length = 3 := by rw [← hx]; rfl
  have k1 : Same H (upd H q (.lst xs)) := fun c o z => by rw [upd_ne (ne_of_none z nq)]; exact z
  refine ⟨l, q, _, _, rfl, rfl, k1 _ _ S.o, upd_same, (by rw [sizeLine_eq, row_len, hx3]; omega), ?_⟩
  have B : Bl l (upd H q (.lst xs)) (upd (upd H q (.lst xs)) l (.lst (row n (3 * j) ++ xs))) := fun c o n z => by rw [upd_ne n]; exact z
  refine k _ ⟨B.err (k1 _ _ S.o) (S.e.same k1), ?_, fun c o z => B c o (fun y => by rw [y, S.new] at z; cases z) (k1 _ _ (S.old c o z)), S.new⟩
  rw [upd_same, ← hx, row_3]
def spCls (cl : Nat → Addr) : Sp := fun vs H Q _ => ∃ (a : Addr) (n : Nat) (fs : List (Str × V)), vs = [.ref a] ∧ n < 60 ∧ ErrAt H a (cl n) fs ∧
  ∀ l H', H l = none → Same H H' → H' l = some (.lst (row n 60)) → Q (.ref l) H'
theorem scCls : FnScope ["e", "found"] ["e"] (defScope sCls) := ⟨rfl, rfl, rfl, by decide +kernel, rfl, by decide +kernel, by decide +kernel⟩
def tCls (K : PySem.W.Frag) (cl : Nat → Addr) : Nat → Nat → TS
  | 0, _ => tRet (tVar 1)
  | m + 1, j => tSeq (tDrop (tCls3 K cl j)) (tCls K cl m (j + 1))
theorem tCls_ok {K : PySem.W.Frag} {mg : Str → Option Value} {cl : Nat → Addr} {W : Addr} {fs : List (Str × V)} {a l : Addr} {n : Nat} {H0 : Hp} {Q : VK} (T : Ty K mg cl W) (hn : n < 60) (k : ∀ H', CSt cl fs a l n H0 20 H' → Q (.ref l) H') : ∀ (m j : Nat) (H : Hp), j + m = 20 → CSt cl fs a l n H0 j H →
    tCls K cl m j { nx := fun _ H' => Q .non H', rt := Q } [some (.ref a), some (.ref l)] H
  | 0, j, H, e1, S => by
    have e' : j = 20 := by omega
    subst e'
    exact ⟨_, rfl, k H S⟩
  | m + 1, j, H, e1, S => by
    show tCls3 _ _ _ _ _ _
    exact cls_step T hn (by omega) S fun H' S' => tCls_ok T hn k m (j + 1) H' (by omega) S'
section
variable {P : Program} {w : World} {K : PySem.W.Frag} {mg : Str → Option Value} {base : Heap} {f : Addr} {fd : FuncData} {cl : Nat → Addr} {W : Addr}
theorem boot_isi : bootBuiltins "isinstance" = some (.builtin "isinstance") := by decide +kernel
theorem ok_cls (F : Fun K "_law_classes" "_law_classes" sCls f fd) (T : Ty K mg cl W) (gI : mg "isinstance" = none) : FnOk P w K mg base CX0 1 f fd ["e"] (spCls cl) := by
  refine F.ok scCls (fun vs H Q E h => by obtain ⟨a, n, fs, h, _⟩ := h; rw [h]; rfl) fun cdv A outer s H vs Q E hr hsp => ?_
  obtain ⟨a, n, fs, rfl, hn, er, hq⟩ := hsp
  have nd := scCls.nd
  refine ⟨tSeq (tAsg (tLst tNil) (gName 1)) (tCls K cl 20 0), pss_cons (ps_set (i := 1) nd rfl (Or.inl rfl) (pe_lst pa_nil))
    (pss_cons (ps_expr (pe_bm PySem.F.plainAttrs_list PySem.F.slot_list_extend PySem.F.type_list_extend mt_extend (pv 1) (pa_cons (pe_lst (pa_cons (pe_callB call_isErr rfl gI boot_isi (pa_cons (pv 0) (pa_cons (pe_glob (v := .ref (cl 0)) rfl (T.g 0 (by decide)) rfl) pa_nil)))
      (pa_cons (pe_callB call_isErr rfl gI boot_isi (pa_cons (pv 0) (pa_cons (pe_glob (v := .ref (cl 1)) rfl (T.g 1 (by decide)) rfl) pa_nil))) (pa_cons (pe_callB call_isErr rfl gI boot_isi (pa_cons (pv 0) (pa_cons (pe_glob (v := .ref (cl 2)) rfl (T.g 2 (by decide)) rfl) pa_nil))) pa_nil)))) pa_nil)))
    (pss_cons (ps_expr (pe_bm PySem.F.plainAttrs_list PySem.F.slot_list_extend PySem.F.type_list_extend mt_extend (pv 1) (pa_cons (pe_lst (pa_cons (pe_callB call_isErr rfl gI boot_isi (pa_cons (pv 0) (pa_cons (pe_glob (v := .ref (cl 3)) rfl (T.g 3 (by decide)) rfl) pa_nil)))
      (pa_cons (pe_callB call_isErr rfl gI boot_isi (pa_cons (pv 0) (pa_cons (pe_glob (v := .ref (cl 4)) rfl (T.g 4 (by decide)) rfl) pa_nil))) (pa_cons (pe_callB call_isErr rfl gI boot_isi (pa_cons (pv 0) (pa_cons (pe_glob (v := .ref (cl 5)) rfl (T.g 5 (by decide)) rfl) pa_nil))) pa_nil)))) pa_nil)))
    (pss_cons (ps_expr (pe_bm PySem.F.plainAttrs_list PySem.F.slot_list_extend PySem.F.type_list_extend mt_extend (pv 1) (pa_cons (pe_lst (pa_cons (pe_callB call_isErr rfl gI boot_isi (pa_cons (pv 0) (pa_cons (pe_glob (v := .ref (cl 6)) rfl (T.g 6 (by decide)) rfl) pa_nil)))
      (pa_cons (pe_callB call_isErr rfl gI boot_isi (pa_cons (pv 0) (pa_cons (pe_glob (v := .ref (cl 7)) rfl (T.g 7 (by decide)) rfl) pa_nil))) (pa_cons (pe_callB call_isErr rfl gI boot_isi (pa_cons (pv 0) (pa_cons (pe_glob (v := .ref (cl 8)) rfl (T.g 8 (by decide)) rfl) pa_nil))) pa_nil)))) pa_nil)))
    (pss_cons (ps_expr (pe_bm PySem.F.plainAttrs_list PySem.F.slot_list_extend PySem.F.type_list_extend mt_extend (pv 1) (pa_cons (pe_lst (pa_cons (pe_callB call_isErr rfl gI boot_isi (pa_cons (pv 0) (pa_cons (pe_glob (v := .ref (cl 9)) rfl (T.g 9 (by decide)) rfl) pa_nil)))
      (pa_cons (pe_callB call_isErr rfl gI boot_isi (pa_cons (pv 0) (pa_cons (pe_glob (v := .ref (cl 10)) rfl (T.g 10 (by decide)) rfl) pa_nil))) (pa_cons (pe_callB call_isErr rfl gI boot_isi (pa_cons (pv 0) (pa_cons (pe_glob (v := .ref (cl 11)) rfl (T.g 11 (by decide)) rfl) pa_nil))) pa_nil)))) pa_nil)))
    (pss_cons (ps_expr (pe_bm PySem.F.plainAttrs_list PySem.F.slot_list_extend PySem.F.type_list_extend mt_extend (pv 1) (pa_cons (pe_lst (pa_cons (pe_callB call_isErr rfl gI boot_isi (pa_cons (pv 0) (pa_cons (pe_glob (v := .ref (cl 12)) rfl (T.g 12 (by decide)) rfl) pa_nil)))
      (pa_cons (pe_callB call_isErr rfl gI boot_isi (pa_cons (pv 0) (pa_cons (pe_glob (v := .ref (cl 13)) rfl (T.g 13 (by decide)) rfl) pa_nil))) (pa_cons (pe_callB call_isErr rfl gI boot_isi (pa_cons (pv 0) (pa_cons (pe_glob (v := .ref (cl 14)) rfl (T.g 14 (by decide)) rfl) pa_nil))) pa_nil)))) pa_nil)))
    (pss_cons (ps_expr (pe_bm PySem.F.plainAttrs_list PySem.F.slot_list_extend PySem.F.type_list_extend mt_extend (pv 1) (pa_cons (pe_lst (pa_cons (pe_callB call_isErr rfl gI boot_isi (pa_cons (pv 0) (pa_cons (pe_glob (v := .ref (cl 15)) rfl (T.g 15 (by decide)) rfl) pa_nil)))
      (pa_cons (pe_callB call_isErr rfl gI boot_isi (pa_cons (pv 0) (pa_cons (pe_glob (v := .ref (cl 16)) rfl (T.g 16 (by decide)) rfl) pa_nil))) (pa_cons (pe_callB call_isErr rfl gI boot_isi (pa_cons (pv 0) (pa_cons (pe_glob (v := .ref (cl 17)) rfl (T.g 17 (by decide)) rfl) pa_nil))) pa_nil)))) pa_nil)))
    (pss_cons (ps_expr (pe_bm PySem.F.plainAttrs_list PySem.F.slot_list_extend PySem.F.type_list_extend mt_extend (pv 1) (pa_cons (pe_lst (pa_cons (pe_callB call_isErr rfl gI boot_isi (pa_cons (pv 0) (pa_cons (pe_glob (v := .ref (cl 18)) rfl (T.g 18 (by decide)) rfl) pa_nil)))
      (pa_cons (pe_callB call_isErr rfl gI boot_isi (pa_cons (pv 0) (pa_cons (pe_glob (v := .ref (cl 19)) rfl (T.g 19 (by decide)) rfl) pa_nil))) (pa_cons (pe_callB call_isErr rfl gI boot_isi (pa_cons (pv 0) (pa_cons (pe_glob (v := .ref (cl 20)) rfl (T.g 20 (by decide)) rfl) pa_nil))) pa_nil)))) pa_nil)))
    (pss_cons (ps_expr (pe_bm PySem.F.plainAttrs_list PySem.F.slot_list_extend PySem.F.type_list_extend mt_extend (pv 1) (pa_cons (pe_lst (pa_cons (pe_callB call_isErr rfl gI boot_isi (pa_cons (pv 0) (pa_cons (pe_glob (v := .ref (cl 21)) rfl (T.g 21 (by decide)) rfl) pa_nil)))
      (pa_cons (pe_callB call_isErr rfl gI boot_isi (pa_cons (pv 0) (pa_cons (pe_glob (v := .ref (cl 22)) rfl (T.g 22 (by decide)) rfl) pa_nil))) (pa_cons (pe_callB call_isErr rfl gI boot_isi (pa_cons (pv 0) (pa_cons (pe_glob (v := .ref (cl 23)) rfl (T.g 23 (by decide)) rfl) pa_nil))) pa_nil)))) pa_nil)))
    (pss_cons (ps_expr (pe_bm PySem.F.plainAttrs_list PySem.F.slot_list_extend PySem.F.type_list_extend mt_extend (pv 1) (pa_cons (pe_lst (pa_cons (pe_callB call_isErr rfl gI boot_isi (pa_cons (pv 0) (pa_cons (pe_glob (v := .ref (cl 24)) rfl (T.g 24 (by decide)) rfl) pa_nil)))
      (pa_cons (pe_callB call_isErr rfl gI boot_isi (pa_cons (pv 0) (pa_cons (pe_glob (v := .ref (cl 25)) rfl (T.g 25 (by decide)) rfl) pa_nil))) (pa_cons (pe_callB call_isErr rfl gI boot_isi (pa_cons (pv 0) (pa_cons (pe_glob (v := .ref (cl 26)) rfl (T.g 26 (by decide)) rfl) pa_nil))) pa_nil)))) pa_nil)))
    (pss_cons (ps_expr (pe_bm PySem.F.plainAttrs_list PySem.F.slot_list_extend PySem.F.type_list_extend mt_extend (pv 1) (pa_cons (pe_lst (pa_cons (pe_callB call_isErr rfl gI boot_isi (pa_cons (pv 0) (pa_cons (pe_glob (v := .ref (cl 27)) rfl (T.g 27 (by decide)) rfl) pa_nil)))
      (pa_cons (pe_callB call_isErr rfl gI boot_isi (pa_cons (pv 0) (pa_cons (pe_glob (v := .ref (cl 28)) rfl (T.g 28 (by decide)) rfl) pa_nil))) (pa_cons (pe_callB call_isErr rfl gI boot_isi (pa_cons (pv 0) (pa_cons (pe_glob (v := .ref (cl 29)) rfl (T.g 29 (by decide)) rfl) pa_nil))) pa_nil)))) pa_nil)))
    (pss_cons (ps_expr (pe_bm PySem.F.plainAttrs_list PySem.F.slot_list_extend PySem.F.type_list_extend mt_extend (pv 1) (pa_cons (pe_lst (pa_cons (pe_callB call_isErr rfl gI boot_isi (pa_cons (pv 0) (pa_cons (pe_glob (v := .ref (cl 30)) rfl (T.g 30 (by decide)) rfl) pa_nil)))
      (pa_cons (pe_callB call_isErr rfl gI boot_isi (pa_cons (pv 0) (pa_cons (pe_glob (v := .ref (cl 31)) rfl (T.g 31 (by decide)) rfl) pa_nil))) (pa_cons (pe_callB call_isErr rfl gI boot_isi (pa_cons (pv 0) (pa_cons (pe_glob (v := .ref (cl 32)) rfl (T.g 32 (by decide)) rfl) pa_nil))) pa_nil)))) pa_nil)))
    (pss_cons (ps_expr (pe_bm PySem.F.plainAttrs_list PySem.F.slot_list_extend PySem.F.type_list_extend mt_extend (pv 1) (pa_cons (pe_lst (pa_cons (pe_callB call_isErr rfl gI boot_isi (pa_cons (pv 0) (pa_cons (pe_glob (v := .ref (cl 33)) rfl (T.g 33 (by decide)) rfl) pa_nil)))
      (pa_cons (pe_callB call_isErr rfl gI boot_isi (pa_cons (pv 0) (pa_cons (pe_glob (v := .ref (cl 34)) rfl (T.g 34 (by decide)) rfl) pa_nil))) (pa_cons (pe_callB call_isErr rfl gI boot_isi (pa_cons (pv 0) (pa_cons (pe_glob (v := .ref (cl 35)) rfl (T.g 35 (by decide)) rfl) pa_nil))) pa_nil)))) pa_nil)))
    (pss_cons (ps_expr (pe_bm PySem.F.plainAttrs_list PySem.F.slot_list_extend PySem.F.type_list_extend mt_extend (pv 1) (pa_cons (pe_lst (pa_cons (pe_callB call_isErr rfl gI boot_isi (pa_cons (pv 0) (pa_cons (pe_glob (v := .ref (cl 36)) rfl (T.g 36 (by decide)) rfl) pa_nil)))
      (pa_cons (pe_callB call_isErr rfl gI boot_isi (pa_cons (pv 0) (pa_cons (pe_glob (v := .ref (cl 37)) rfl (T.g 37 (by decide)) rfl) pa_nil))) (pa_cons (pe_callB call_isErr rfl gI boot_isi (pa_cons (pv 0) (pa_cons (pe_glob (v := .ref (cl 38)) rfl (T.g 38 (by decide)) rfl) pa_nil))) pa_nil)))) pa_nil)))
    (pss_cons (ps_expr (pe_bm PySem.F.plainAttrs_list PySem.F.slot_list_extend PySem.F.type_list_extend mt_extend (pv 1) (pa_cons (pe_lst (pa_cons (pe_callB call_isErr rfl gI boot_isi (pa_cons (pv 0) (pa_cons (pe_glob (v := .ref (cl 39)) rfl (T.g 39 (by decide)) rfl) pa_nil)))
      (pa_cons (pe_callB call_isErr rfl gI boot_isi (pa_cons (pv 0) (pa_cons (pe_glob (v := .ref (cl 40)) rfl (T.g 40 (by decide)) rfl) pa_nil))) (pa_cons (pe_callB call_isErr rfl gI boot_isi (pa_cons (pv 0) (pa_cons (pe_glob (v := .ref (cl 41)) rfl (T.g 41 (by decide)) rfl) pa_nil))) pa_nil)))) pa_nil)))
    (pss_cons (ps_expr (pe_bm PySem.F.plainAttrs_list PySem.F.slot_list_extend PySem.F.type_list_extend mt_extend (pv 1) (pa_cons (pe_lst (pa_cons (pe_callB call_isErr rfl gI boot_isi (pa_cons (pv 0) (pa_cons (pe_glob (v := .ref (cl 42)) rfl (T.g 42 (by decide)) rfl) pa_nil)))
      (pa_cons (pe_callB call_isErr rfl gI boot_isi (pa_cons (pv 0) (pa_cons (pe_glob (v := .ref (cl 43)) rfl (T.g 43 (by decide)) rfl) pa_nil))) (pa_cons (pe_callB call_isErr rfl gI boot_isi (pa_cons (pv 0) (pa_cons (pe_glob (v := .ref (cl 44)) rfl (T.g 44 (by decide)) rfl) pa_nil))) pa_nil)))) pa_nil)))
    (pss_cons (ps_expr (pe_bm PySem.F.plainAttrs_list PySem.F.slot_list_extend PySem.F.type_list_extend mt_extend (pv 1) (pa_cons (pe_lst (pa_cons (pe_callB call_isErr rfl gI boot_isi (pa_cons (pv 0) (pa_cons (pe_glob (v := .ref (cl 45)) rfl (T.g 45 (by decide)) rfl) pa_nil)))
      (pa_cons (pe_callB call_isErr rfl gI boot_isi (pa_cons (pv 0) (pa_cons (pe_glob (v := .ref (cl 46)) rfl (T.g 46 (by decide)) rfl) pa_nil))) (pa_cons (pe_callB call_isErr rfl gI boot_isi (pa_cons (pv 0) (pa_cons (pe_glob (v := .ref (cl 47)) rfl (T.g 47 (by decide)) rfl) pa_nil))) pa_nil)))) pa_nil)))
    (pss_cons (ps_expr (pe_bm PySem.F.plainAttrs_list PySem.F.slot_list_extend PySem.F.type_list_extend mt_extend (pv 1) (pa_cons (pe_lst (pa_cons (pe_callB call_isErr rfl gI boot_isi (pa_cons (pv 0) (pa_cons (pe_glob (v := .ref (cl 48)) rfl (T.g 48 (by decide)) rfl) pa_nil)))
      (pa_cons (pe_callB call_isErr rfl gI boot_isi (pa_cons (pv 0) (pa_cons (pe_glob (v := .ref (cl 49)) rfl (T.g 49 (by decide)) rfl) pa_nil))) (pa_cons (pe_callB call_isErr rfl gI boot_isi (pa_cons (pv 0) (pa_cons (pe_glob (v := .ref (cl 50)) rfl (T.g 50 (by decide)) rfl) pa_nil))) pa_nil)))) pa_nil)))
    (pss_cons (ps_expr (pe_bm PySem.F.plainAttrs_list PySem.F.slot_list_extend PySem.F.type_list_extend mt_extend (pv 1) (pa_cons (pe_lst (pa_cons (pe_callB call_isErr rfl gI boot_isi (pa_cons (pv 0) (pa_cons (pe_glob (v := .ref (cl 51)) rfl (T.g 51 (by decide)) rfl) pa_nil)))
      (pa_cons (pe_callB call_isErr rfl gI boot_isi (pa_cons (pv 0) (pa_cons (pe_glob (v := .ref (cl 52)) rfl (T.g 52 (by decide)) rfl) pa_nil))) (pa_cons (pe_callB call_isErr rfl gI boot_isi (pa_cons (pv 0) (pa_cons (pe_glob (v := .ref (cl 53)) rfl (T.g 53 (by decide)) rfl) pa_nil))) pa_nil)))) pa_nil)))
    (pss_cons (ps_expr (pe_bm PySem.F.plainAttrs_list PySem.F.slot_list_extend PySem.F.type_list_extend mt_extend (pv 1) (pa_cons (pe_lst (pa_cons (pe_callB call_isErr rfl gI boot_isi (pa_cons (pv 0) (pa_cons (pe_glob (v := .ref (cl 54)) rfl (T.g 54 (by decide)) rfl) pa_nil)))
      (pa_cons (pe_callB call_isErr rfl gI boot_isi (pa_cons (pv 0) (pa_cons (pe_glob (v := .ref (cl 55)) rfl (T.g 55 (by decide)) rfl) pa_nil))) (pa_cons (pe_callB call_isErr rfl gI boot_isi (pa_cons (pv 0) (pa_cons (pe_glob (v := .ref (cl 56)) rfl (T.g 56 (by decide)) rfl) pa_nil))) pa_nil)))) pa_nil)))
    (pss_cons (ps_expr (pe_bm PySem.F.plainAttrs_list PySem.F.slot_list_extend PySem.F.type_list_extend mt_extend (pv 1) (pa_cons (pe_lst (pa_cons (pe_callB call_isErr rfl gI boot_isi (pa_cons (pv 0) (pa_cons (pe_glob (v := .ref (cl 57)) rfl (T.g 57 (by decide)) rfl) pa_nil)))
      (pa_cons (pe_callB call_isErr rfl gI boot_isi (pa_cons (pv 0) (pa_cons (pe_glob (v := .ref (cl 58)) rfl (T.g 58 (by decide)) rfl) pa_nil))) (pa_cons (pe_callB call_isErr rfl gI boot_isi (pa_cons (pv 0) (pa_cons (pe_glob (v := .ref (cl 59)) rfl (T.g 59 (by decide)) rfl) pa_nil))) pa_nil)))) pa_nil)))
    (pss_one (ps_ret (pv 1))))))))))))))))))))))), ?_⟩
  refine ⟨Nat.zero_le _, fun l nl => ?_⟩
  have k1 : Same H (upd H l (.lst [])) := fun c o z => by rw [upd_ne (ne_of_none z nl)]; exact z
  exact tCls_ok (H0 := H) T hn (fun H' S => hq l H' nl S.old S.o) 20 0 _ rfl ⟨er.same k1, upd_same, k1, nl⟩
end
end L2.EV

namespace L2.EV
open PySem PySem.Spec PyProof.Rows _root_.EV
/-! ### an error class without __init__, made with nothing -/
theorem pe_err0 {X : Cx} {C : Addr} {x : Str} {p pos : Pos}
    (q : PySem.W.excIn X.K C [.type "ValueError", .type "Exception", .type "BaseException", .type "object"] "ValueError.__new__" = true) (kC : PySem.W.keepIn X.K (.ref C) = true) (gC : X.mg x = some (.ref C))
    (hg : Gl X x := by rfl) (hdb : (x == ("__debug__" : Str)) = false := by decide) :
    PE X (.Call (.Name x p) [] [] pos) (fun _ H Q => ∀ a, H a = none → Q (.ref a) (upd H a (exo a C none))) := by
  refine ⟨fun pins s σ H Q I h => ?_⟩
  refine wpAny_Call_Name_kw (ld_glob I hg gC ?_ hdb)
  refine PySem.W.callWith_K0 I.kIn kC ?_
  show wpAny _ _ (call (.ref C) []) _ _ _
  obtain ⟨bm, N, nm, qn, bs, hdct, sn, sub, ab, col, dd, k0, k1, k2, k3, k5, mN, hC, hN, hni, T⟩ := exc_obj I.kIn q
  refine wpAny_call_exc_subT PySem.F.excBase_ValueError T hC hN hni (fun h' a hm => ?_) nil_len
  have hn : H a = none := I.hok.gone hm.new
  obtain ⟨t, ht, _, _⟩ := hm.there
  exact ⟨.ref a, upd H a (exo a C none), I.laidN hm.keeps hm.new hn (exo_ok ht), rfl, h a hn⟩

/-! ### the error of two fields -/
def crArgs (p1 p2 p3 : Pos) : Arguments :=
  { posonlyargs := [], args := [{ arg := "self", annotation := none, pos := p1 }, { arg := "first", annotation := none, pos := p2 }, { arg := "last", annotation := none, pos := p3 }]
    vararg := none, kwonlyargs := [], kw_defaults := [], kwarg := none, defaults := [] }
def crBody (q1 q2 q3 q4 r1 r2 r3 r4 : Pos) : List Stmt :=
  [.Assign [.Attribute (.Name "self" q1) "first" q2] (.Name "first" q3) q4, .Assign [.Attribute (.Name "self" r1) "last" r2] (.Name "last" r3) r4]
def crScope : Scope :=
  { kind := .function, names := [("self", .local), ("first", .local), ("last", .local)], isGenerator := false, isCoroutine := false, more := [] }
structure CrC (K : PySem.W.Frag) (mg : Str → Option Value) (C fI : Addr) : Prop where
  g : mg "Crowded" = some (.ref C)
  o : OexC K C
  iC : PySem.W.findIn K (.ref C) "__init__" = some (some (.ref fI))
  tI : PySem.W.typeIn K (.ref fI) = some (.type "function")
  noF : PySem.W.findIn K (.ref C) "first" = some none
  noL : PySem.W.findIn K (.ref C) "last" = some none
  fld : XfC K C
  fn : ∃ (oc : Value) (od : Option Addr) (kV doc pm : Value) (an : Option Addr) (cdv ct : Value) (osl : Array (Option Value)) (qual : Str) (p1 p2 p3 q1 q2 q3 q4 r1 r2 r3 r4 : Pos),
    K.lookup fI = some ⟨oc, od, .func (PySem.W.fnOf "__init__" qual (crArgs p1 p2 p3) (crBody q1 q2 q3 q4 r1 r2 r3 r4) crScope .none kV doc pm an cdv ct), osl⟩ ∧ PySem.W.codeIn K cdv qual = true
def spCr (C : Addr) : Sp := fun vs H Q _ => ∃ (a : Addr) (v u : V), vs = [.ref a, v, u] ∧ H a = some (exo a C none) ∧
  ∀ d H', H d = none → d ≠ a → H' d = some (exd d [("last", u), ("first", v)]) → H' a = some (exo a C (some d)) → (∀ b o, b ≠ a → H b = some o → H' b = some o) → Q .non H'
theorem cr_ok {P : Program} {w : World} {K : PySem.W.Frag} {mg : Str → Option Value} {base : Heap} {C fI : Addr} (T : CrC K mg C fI) :
    ∃ fd : FuncData, FnOk P w K mg base CX0 1 fI fd ["self", "first", "last"] (spCr C) ∧
      (∀ (s : Shared) (a u v : Value), BindsTo s fd ⟨[a, u, v], []⟩ [("self", a), ("first", u), ("last", v)]) ∧
      (∀ (s : Shared) (a u v : Value), BindsTo s fd ⟨[a], [("first", u), ("last", v)]⟩ [("self", a), ("first", u), ("last", v)]) := by
  obtain ⟨oc, od, kV, doc, pm, an, cdv, ct, osl, qual, p1, p2, p3, q1, q2, q3, q4, r1, r2, r3, r4, lk, hcd⟩ := T.fn
  refine ⟨_, fn_of lk hcd (N := ["self", "first", "last"]) ⟨rfl, rfl, rfl, by decide +kernel, rfl, by decide +kernel, by decide +kernel⟩ (fun vs H Q E h => by obtain ⟨a, v, u, e, _⟩ := h; rw [e]; rfl) fun A outer s H vs Q E hr hsp => ?_, fun s a u v => .of_eq rfl, fun s a u v => .of_eq rfl⟩
  obtain ⟨a, v, u, rfl, ha, hq⟩ := hsp
  refine ⟨_, pss_cons (ps_ost (pv 0) (pv 1)) (pss_one (ps_ost (pv 0) (pv 2))), ?_⟩
  refine ⟨v, rfl, V.ref a, rfl, a, C, rfl, T.o, T.noF, .inl ⟨ha, fun d hd ne => ?_⟩⟩
  have e1 : (upd (upd H d (exd d [("first", v)])) a (exo a C (some d))) a = some (exo a C (some d)) := upd_same
  have e2 : (upd (upd H d (exd d [("first", v)])) a (exo a C (some d))) d = some (exd d [("first", v)]) := by rw [upd_ne ne, upd_same]
  refine ⟨u, rfl, V.ref a, rfl, a, C, rfl, T.o, T.noL, .inr ⟨d, _, e1, e2, (by show 1 ≤ 900; omega), ?_⟩⟩
  refine hq d _ hd ne upd_same (by rw [upd_ne (Ne.symm ne)]; exact e1) fun b o n e => ?_
  have nd : b ≠ d := ne_of_none e hd
  rw [upd_ne nd, upd_ne n, upd_ne nd]; exact e
def crQ (C : Addr) (Q : VK) : List V → Hp → Prop := fun vs H1 => match vs with
  | [v, u] => ∀ a H2, H1 a = none → Same H1 H2 → ErrAt H2 a C [("last", u), ("first", v)] → Q (.ref a) H2
  | _ => False
theorem crQ_two {C : Addr} {Q : VK} {vs : List V} {us : List Value} {H : Hp} (r : Vals vs us) (z : crQ C Q vs H) :
    ∃ v v' u u', vs = [v, v'] ∧ us = [u, u'] ∧ RelV v u ∧ RelV v' u' ∧ ∀ a H2, H a = none → Same H H2 → ErrAt H2 a C [("last", v'), ("first", v)] → Q (.ref a) H2 := by
  cases r with
  | nil => exact z.elim
  | cons a r =>
    cases r with
    | nil => exact z.elim
    | cons b r =>
      cases r with
      | nil => exact ⟨_, _, _, _, rfl, rfl, a, b, z⟩
      | cons c r => exact z.elim
theorem cr_after {Q : VK} {H : Hp} {C a : Addr} {v v' : V} (ha : H a = none) (z : ∀ a H2, H a = none → Same H H2 → ErrAt H2 a C [("last", v'), ("first", v)] → Q (.ref a) H2) :
    spCr C [.ref a, v, v'] (upd H a (exo a C none)) (fun u H2 => u = .non ∧ Q (.ref a) H2) E0 := by
  refine ⟨a, v, v', rfl, upd_same, fun d H' hd ne e1 e2 k => ⟨rfl, z a H' ha (fun b o e => ?_) (.inr ⟨d, e2, e1⟩)⟩⟩
  have n := ne_of_none e ha
  exact k b o n (by rw [upd_ne n]; exact e)
section
variable {X : Cx} {C fI : Addr} {e e' : Expr} {te te' : TE} {p pos kp kp' : Pos}
theorem pe_cr (T : CrC X.K X.mg C fI) (hr : Room 2 X.A) (he : PE X e te) (he' : PE X e' te') (hg : Gl X "Crowded" := by rfl)
    (hs : starEach [e, e'] X.env = (false, eval e X.env) :: starEach [e'] X.env := by rfl) (hs' : starEach [e'] X.env = (false, eval e' X.env) :: starEach [] X.env := by rfl)
    (hpl : (backTo pos (starEach [e'] X.env)).any (·.1) = false := by rfl) :
    PE X (.Call (.Name "Crowded" p) [e, e'] [] pos) (fun σ H Q => tCons te (tCons te' tNil) σ H (crQ C Q)) := by
  refine ⟨fun pins s σ H Q I h => ?_⟩
  obtain ⟨fd, F, b1, b2⟩ := cr_ok (P := X.prog) (w := X.w) (base := X.base) T
  refine wpAny_Call_Name_kw (ld_glob I hg T.g ?_ (by decide))
  refine PySem.W.callWith_K (h₀ := X.base) I.ok.mod.kin T.o.kC
    (thn ((pa_cons he (pa_cons he' pa_nil hs') hs).run pos pins s σ H (crQ C Q) I h) fun us s1 ⟨vs, H1, I1, r1, z⟩ => ⟨I1.kIn, ?_⟩) hs hpl
  obtain ⟨v0, v1, u0, u1, rfl, rfl, rv, rv', z⟩ := crQ_two r1 z
  show wpAny _ _ (call (.ref C) [u0, u1] (([] : List Str).zip ([] : List Value))) _ _ _
  exact run_err (vl := [v0, v1]) (al := [u0, u1]) T.o T.iC T.tI F hr I1 (fun a s' _ => b1 s' (.ref a) u0 u1) (.cons rv (.cons rv' .nil)) (by rw [sizeLine_eq]; show 2 ≤ _; omega) fun a ha => cr_after ha z
theorem pe_crK (T : CrC X.K X.mg C fI) (hr : Room 2 X.A) (he : PE X e te) (he' : PE X e' te') (hg : Gl X "Crowded" := by rfl) :
    PE X (.Call (.Name "Crowded" p) [] [⟨some "first", e, kp⟩, ⟨some "last", e', kp'⟩] pos) (fun σ H Q => tCons te (tCons te' tNil) σ H (crQ C Q)) := by
  refine ⟨fun pins s σ H Q I h => ?_⟩
  obtain ⟨fd, F, b1, b2⟩ := cr_ok (P := X.prog) (w := X.w) (base := X.base) T
  refine wpAny_Call_Name_kw (ld_glob I hg T.g ?_ (by decide))
  refine PySem.W.callWith_KW0 (h₀ := X.base) I.ok.mod.kin T.o.kC (by rfl) ?_ (by rfl)
  refine thn ((pk_cons he (pk_cons he' pk_nil)).run pos pins s σ H (crQ C Q) I h) fun us s1 ⟨vs, H1, I1, r1, z⟩ => ⟨I1.kIn, ?_⟩
  obtain ⟨v0, v1, u0, u1, rfl, rfl, rv, rv', z⟩ := crQ_two r1 z
  show wpAny _ _ (call (.ref C) [] ((["first", "last"] : List Str).zip [u0, u1])) _ _ _
  exact run_err (vl := [v0, v1]) (al := [u0, u1]) T.o T.iC T.tI F hr I1 (fun a s' _ => b2 s' (.ref a) u0 u1) (.cons rv (.cons rv' .nil)) nil_len fun a ha => cr_after ha z
end

/-! ### the things that are drawn -/
/-- a flat thing, [n], (1, [2]) or {"a": 1} -/
inductive Xk (H : Hp) : V → Prop where
  | non : Xk H .non
  | bl (b : Bool) : Xk H (.bl b)
  | int (i : Int) : Xk H (.int i)
  | str (x : Str) : Xk H (.str x)
  | lst {a : Addr} (i : Int) (e : H a = some (.lst [.int i])) : Xk H (.ref a)
  | tup {a b : Addr} (e : H a = some (.tup [.int 1, .ref b])) (e2 : H b = some (.lst [.int 2])) : Xk H (.ref a)
  | dct {a : Addr} (e : H a = some (.dK [(.inr "a", .int 1)])) : Xk H (.ref a)
theorem Xk.same {H H' : Hp} {x : V} (h : Xk H x) (s : Same H H') : Xk H' x := by
  cases h with
  | non => exact .non
  | bl b => exact .bl b
  | int i => exact .int i
  | str x => exact .str x
  | lst i e => exact .lst i (s _ _ e)
  | tup e e2 => exact .tup (s _ _ e) (s _ _ e2)
  | dct e => exact .dct (s _ _ e)
def xTy (x : V) (t : Value) : Prop := True
/-- x != x -/
def rNeX : R2 := fun x y H Q => x = y ∧ Xk H x ∧ Q (.bl false) H
theorem op_neX {X : Cx} (hu : X.A.units + 64 < cLine) : OpR X (compareOp .NotEq) rNeX := by
  intro pins s σ H x y v u Q I rx ry h
  obtain ⟨rfl, k, q⟩ := h
  have sc : ∀ z : V, z = x → scal z z = true → wpAny (model X.prog X.w) X.A (compareOp .NotEq v u) (EP X pins σ Q) X.xe s := fun z e hz => by
    subst e
    refine op_ne pins s σ H z z v u Q I rx ry ⟨hz, ?_⟩
    rw [decide_eq_true rfl]; exact q
  cases k with
  | non => exact sc _ rfl rfl
  | bl b => exact sc _ rfl rfl
  | int i => exact sc _ rfl rfl
  | str x => exact sc _ rfl rfl
  | lst i e =>
    refine op_neD hu pins s σ H _ _ v u Q I rx ry ⟨.list [.int i], .list [.int i], .lst (SqL.of e) (.cons (.int i) .nil), .lst (SqL.of e) (.cons (.int i) .nil), PySem.W.shaped_ints [i], PySem.W.shaped_ints [i], ?_⟩
    have z : PyData.eqv (.list [.int i]) (.list [.int i]) = true := by simp [PyData.eqv, PyData.eqvAll]
    rw [z]; exact q
  | tup e e2 =>
    exact op_neD hu pins s σ H _ _ v u Q I rx ry ⟨.tuple [.int 1, .list [.int 2]], .tuple [.int 1, .list [.int 2]], .tup (SqT.of e) (.cons (.int 1) (.cons (.lst (SqL.of e2) (.cons (.int 2) .nil)) .nil)), .tup (SqT.of e) (.cons (.int 1) (.cons (.lst (SqL.of e2) (.cons (.int 2) .nil)) .nil)), by decide, by decide, q⟩
  | dct e =>
    exact op_ne_dictA (by omega) pins s σ H _ _ v u Q I rx ry ⟨_, _, _, _, rfl, rfl, e, e, rfl, fun p hp => by
      have hp' : p = ((Sum.inr ("a" : Str) : Key), V.int 1) := by simpa using hp
      rw [hp']; exact ⟨by decide, rfl⟩, q⟩
/-- isinstance(x, bool) -/
theorem xk_bool {K : PySem.W.Frag} {H : Hp} {x : V} (k : Xk H x) : ∃ t b, TyX K H x t ∧ PySem.W.kitOne K t (.type "bool") = some b := by
  cases k with
  | non => exact ⟨_, _, .base .non, kit_ty (r := false) (by decide +kernel)⟩
  | bl b => exact ⟨_, _, .base (.bl b), kit_ty (r := true) (by decide +kernel)⟩
  | int i => exact ⟨_, _, .base (.int i), kit_ty (r := false) (by decide +kernel)⟩
  | str x => exact ⟨_, _, .base (.str x), kit_ty (r := false) (by decide +kernel)⟩
  | lst i e => exact ⟨_, _, .base (.lst e), kit_ty (r := false) (by decide +kernel)⟩
  | tup e e2 => exact ⟨_, _, .base (.tup e), kit_ty (r := false) (by decide +kernel)⟩
  | dct e => exact ⟨_, _, .base (.dK e), kit_ty (r := false) (by decide +kernel)⟩
end L2.EV

namespace L2.EV
open PySem PySem.Spec PyProof.Rows _root_.EV
def forBody : Stmt → List Stmt
  | .For _ _ b _ _ => b
  | _ => []
def stAt (l : List Stmt) (i : Nat) : Stmt := l.getD i (.Pass ⟨0, 0, 0, 0⟩)
abbrev body1 : List Stmt := forBody (stAt (defBody sLaw) 1)
abbrev body2 : List Stmt := forBody (stAt body1 1)
abbrev body3 : List Stmt := forBody (stAt body2 6)
abbrev LN : List Str := ["script", "stream", "turn", "x", "half", "errors", "e", "n", "pair", "one", "k"]
theorem scLaw : FnScope LN ["script"] (defScope sLaw) := ⟨rfl, rfl, rfl, by decide +kernel, rfl, by decide +kernel, by decide +kernel⟩
structure LTx (K : PySem.W.Frag) (mg : Str → Option Value) (cl ini : Nat → Addr) (W : Addr) : Prop where
  T : Tx K mg cl ini
  Y : Ty K mg cl W
  C : CrC K mg (cl 59) (ini 59)
  e0 : ∀ i, 56 ≤ i → i < 59 → PySem.W.excIn K (cl i) veB "ValueError.__new__" = true ∧ PySem.W.keepIn K (.ref (cl i)) = true
  w0 : PySem.W.excIn K W veB "ValueError.__new__" = true ∧ PySem.W.keepIn K (.ref W) = true
  wx : ExcC K W
  wV : PySem.W.kitOne K (.ref W) (.type "ValueError") = some true
  nR : mg "range" = none
  nA : mg "any" = none
  nE : mg "enumerate" = none
  nI : mg "isinstance" = none
  nB : mg "bool" = none
  nV : mg "ValueError" = none
  nInt : mg "int" = none
  nLen : mg "len" = none
  nList : mg "list" = none
theorem boot_ve : bootBuiltins "ValueError" = some (.type "ValueError") := by decide +kernel
theorem dec_int (i n : Nat) : decide (V.int (0 + (i : Int)) = V.int (n : Int)) = decide (i = n) := by
  by_cases h : i = n
  · subst h; simp
  · rw [decide_eq_false h, decide_eq_false]
    intro z
    have z2 : (0 + (i : Int)) = (n : Int) := V.int.inj z
    omega
theorem dp_row {K : PySem.W.Frag} {H : Hp} (n : Nat) : ∀ k, DpAll K H (row n k) ((List.range k).map fun j => PyData.bool (decide (j = n))) := by
  have h : ∀ l : List Nat, DpAll K H (l.map fun j => V.bl (decide (j = n))) (l.map fun j => PyData.bool (decide (j = n))) := by
    intro l
    induction l with
    | nil => exact .nil
    | cons a l ih => exact .cons (.bl _) ih
  exact fun k => h _
theorem bools_shape : ∀ bs : List Bool, PyData.canLayAll0 (bs.map PyData.bool) = true ∧ PyData.depthAll (bs.map PyData.bool) = 0
  | [] => ⟨by simp [PyData.canLayAll0], by simp [PyData.depthAll]⟩
  | b :: bs => by
    obtain ⟨h1, h2⟩ := bools_shape bs
    exact ⟨by simp [PyData.canLayAll0, PyData.canLay0, h1], by simp [PyData.depthAll, PyData.depth, h2]⟩
theorem bools_shaped (bs : List Bool) : SeqAt.shaped (.list (bs.map PyData.bool)) = true := by
  obtain ⟨h1, h2⟩ := bools_shape bs
  unfold SeqAt.shaped
  simp [PyData.canLay0, PyData.depth, h1, h2]
theorem bools_eqv : ∀ bs : List Bool, PyData.eqvAll (bs.map PyData.bool) (bs.map PyData.bool) = true
  | [] => by simp [PyData.eqvAll]
  | b :: bs => by simp [PyData.eqvAll, PyData.eqv, bools_eqv bs]
section
variable {P : Program} {w : World} {K : PySem.W.Frag} {mg : Str → Option Value} {base : Heap} {f fC : Addr} {fdC : FuncData} {cl ini : Nat → Addr} {W : Addr}
theorem law_body3 {cdv : Value} {A : Around} {outer : List Env} {s : Shared} {H : Hp} {E : XK} (L : LTx K mg cl ini W) (FC : Fun K "_law_classes" "_law_classes" sCls fC fdC) (gC : mg "_law_classes" = some (.ref fC))
    (hr : Room 3 (A.deeper (envOfC "law" (defScope sLaw) s.heap.objs.size f cdv))) :
    ∃ t, PSs (cxOf CX0 P w K mg base LN "law" (defScope sLaw) f cdv A outer s H E).nox body3 t ∧
      ∀ (D : Ends) (s0 s1 s2 s3 s4 s5 s8 s9 s10 : Option V) (n : Nat) (a : Addr) (fs : List (Str × V)) (H1 : Hp), n < 60 → ErrAt H1 a (cl n) fs →
        (∀ H', Same H1 H' → D.nx [s0, s1, s2, s3, s4, s5, some (.ref a), some (.int n), s8, s9, s10] H') →
        t D [s0, s1, s2, s3, s4, s5, some (.ref a), some (.int n), s8, s9, s10] H1 := by
  have GC : FnOk P w K mg base CX0 1 fC fdC ["e"] (spCls cl) := ok_cls FC L.Y L.nI
  have bC := FC.binds (ps := ["e"]) fun _ _ _ _ _ _ us hl => match us, hl with | [_], _ => rfl
  have nd := scLaw.nd
  have hu64 := hr.units
  refine ⟨_, pss_cons (ps_if (PW.pt (pw_or (pt_not (pt_val (pe_callB call_isErr rfl L.nI boot_isi (pa_cons (pv 6) (pa_cons (pe_glob (v := .ref W) rfl L.Y.wg rfl) pa_nil)))))
      (pw_or1 (pt_not (pt_val (pe_callB call_isErr rfl L.nI boot_isi (pa_cons (pv 6) (pa_cons (pe_bltn (v := .ty "ValueError") rfl L.nV boot_ve rfl) pa_nil))))))))
      (pss_one (ps_ret pe_bl)) pss_nil)
    (pss_one (ps_if (pt_cmpR (op_neD hu64) (pe_call GC (hr.mono (by decide)) rfl gC FC.kp bC .nil pass0 (pa_cons (pv 6) pa_nil))
      (pe_lc (own := [("k", 10)]) (g := gName 10) (tt := tYes) rfl nd (pi_range1 rfl L.nR (pa_cons pe_int pa_nil)) (blkOk_by (N := LN) (sc := defScope sLaw) (by decide +kernel))
        (fun _ _ _ _ _ => pg_name (i := 10) nd rfl (Or.inl rfl)) (fun _ _ _ _ _ => pts_nil) (fun _ _ _ _ _ => pe_cmpR op_eq (pv 10) (pv 7) (nomark _))) (nomark _))
      (pss_one (ps_ret pe_bl)) pss_nil)), ?_⟩
  intro D s0 s1 s2 s3 s4 s5 s8 s9 s10 n a fs H1 hn er go
  refine ⟨_, rfl, a, cl n, fs, .ref W, .ref W, true, rfl, er, .own _, L.Y.x n hn, L.Y.kitW n hn, true, rfl, ?_⟩
  refine iteF ⟨_, rfl, a, cl n, fs, .ty "ValueError", .type "ValueError", true, rfl, er, .ty _, L.Y.x n hn, L.Y.kitV n hn, true, rfl, iteF ?_⟩
  refine ⟨_, rfl, a, n, fs, rfl, hn, er, fun l H2 nl sm ol => ?_⟩
  refine ⟨60, rfl, by decide, by decide, fun q nq => lc_range (n := 60) (fun i H' => H' q = some (.lst (row n i)) ∧ Same H2 H') ⟨upd_same, fun c o z => by rw [upd_ne (ne_of_none z nq)]; exact z⟩ ?_ ?_⟩
  · intro i H3 hi p
    obtain ⟨p1, p2⟩ := p
    refine ⟨rfl, ?_⟩
    refine ⟨_, rfl, _, rfl, rfl, row n i, p1, (by rw [row_len, sizeLine_eq]; omega), ?_, fun c o z => ?_⟩
    · rw [upd_same, row_succ, dec_int]
    · have nc : c ≠ q := ne_of_none z nq
      rw [upd_ne nc]; exact p2 c o z
  · intro H3 p
    obtain ⟨p1, p2⟩ := p
    have e1 : ((List.range 60).map fun j => PyData.bool (decide (j = n))) = ((List.range 60).map fun j => decide (j = n)).map PyData.bool := by rw [List.map_map]; rfl
    have e2 := bools_shaped ((List.range 60).map fun j => decide (j = n))
    have e3 : PyData.eqv (.list ((List.range 60).map fun j => PyData.bool (decide (j = n)))) (.list ((List.range 60).map fun j => PyData.bool (decide (j = n)))) = true := by
      rw [e1]; show PyData.eqvAll _ _ = true; exact bools_eqv _
    rw [← e1] at e2
    refine ⟨_, _, .lst (SqL.of (p2 _ _ ol)) (dp_row n 60), .lst (SqL.of p1) (dp_row n 60), e2, e2, _, rfl, ?_⟩
    rw [e3]
    refine iteF ?_
    exact go H3 (sm.trans p2)
end
end L2.EV

namespace L2.EV
open PySem PySem.Spec PyProof.Rows _root_.EV
theorem boot_any' : bootBuiltins "any" = some (.builtin "any") := by decide +kernel
theorem boot_bool' : bootBuiltins "bool" = some (.type "bool") := by decide +kernel
/-- the list of errors at q grows -/
structure ESt (cl : Nat → Addr) (q : Addr) (H0 : Hp) (es : List Addr) (H : Hp) : Prop where
  o : H q = some (.lst (es.map V.ref))
  old : Same H0 H
  new : H0 q = none
  p : ∀ i a, es[i]? = some a → ∃ fs, ErrAt H a (cl i) fs
theorem ESt.same {cl : Nat → Addr} {q : Addr} {H0 H H' : Hp} {es : List Addr} (S : ESt cl q H0 es H) (s : Same H H') : ESt cl q H0 es H' :=
  ⟨s _ _ S.o, S.old.trans s, S.new, fun i a e => let ⟨fs, z⟩ := S.p i a e; ⟨fs, z.same s⟩⟩
theorem ESt.app {cl : Nat → Addr} {q : Addr} {H0 H : Hp} {es bs : List Addr} (S : ESt cl q H0 es H) (h : ∀ j b, bs[j]? = some b → ∃ fs, ErrAt H b (cl (es.length + j)) fs) :
    ESt cl q H0 (es ++ bs) (upd H q (.lst ((es ++ bs).map V.ref))) := by
  have B : Bl q H (upd H q (.lst ((es ++ bs).map V.ref))) := fun c o n z => by rw [upd_ne n]; exact z
  refine ⟨upd_same, fun c o z => B c o (fun y => by rw [y, S.new] at z; cases z) (S.old c o z), S.new, fun i a e => ?_⟩
  by_cases h1 : i < es.length
  · rw [List.getElem?_append_left h1] at e
    obtain ⟨fs, z⟩ := S.p i a e
    exact ⟨fs, B.err S.o z⟩
  · rw [List.getElem?_append_right (by omega)] at e
    obtain ⟨fs, z⟩ := h _ a e
    have e2 : es.length + (i - es.length) = i := by omega
    rw [e2] at z
    exact ⟨fs, B.err S.o z⟩
section
variable {P : Program} {w : World} {K : PySem.W.Frag} {mg : Str → Option Value} {base : Heap} {f fC fP fH : Addr} {fdC fdP fdH : FuncData} {cl ini : Nat → Addr} {W : Addr}
theorem law_tail {cdv : Value} {A : Around} {outer : List Env} {s : Shared} {H : Hp} {E : XK} (L : LTx K mg cl ini W) (FC : Fun K "_law_classes" "_law_classes" sCls fC fdC) (gC : mg "_law_classes" = some (.ref fC))
    (hr : Room 3 (A.deeper (envOfC "law" (defScope sLaw) s.heap.objs.size f cdv))) :
    ∃ t, PSs (cxOf CX0 P w K mg base LN "law" (defScope sLaw) f cdv A outer s H E).nox (body2.drop 4) t ∧
      ∀ (D : Ends) (s0 s1 s2 s4 s7 s8 s9 s10 : Option V) (x : V) (a q : Addr) (es : List Addr) (H0 H1 : Hp), Xk H1 x → ESt cl q H0 es H1 → es.length = 59 → ErrAt H1 a (cl 59) [("last", .int 7), ("first", x)] →
        (∀ H' s6' s7', Same H0 H' → D.nx [s0, s1, s2, some x, s4, some (.ref q), s6', s7', s8, s9, s10] H') →
        t D [s0, s1, s2, some x, s4, some (.ref q), some (.ref a), s7, s8, s9, s10] H1 := by
  obtain ⟨t3, p3, h3⟩ := law_body3 (P := P) (w := w) (base := base) (cdv := cdv) (A := A) (outer := outer) (s := s) (H := H) (E := E) L FC gC hr
  have nd := scLaw.nd
  have hu64 := hr.units
  refine ⟨_, pss_cons (ps_if (PW.pt (pw_or (pt_cmpR (op_neX hu64) (pe_errf (pv 6)) (pv 3) (nomark _)) (pw_or1 (pt_cmpR op_ne (pe_errf (pv 6)) pe_int (nomark _))))) (pss_one (ps_ret pe_bl)) pss_nil)
    (pss_cons (ps_expr (pe_bm PySem.F.plainAttrs_list PySem.F.slot_list_append PySem.F.type_list_append mt_append (pv 5) (pa_cons (pv 6) pa_nil)))
    (pss_one (ps_for PassesOwn.never rfl (pi_enum rfl L.nE (pa_cons (pv 5) pa_nil)) (pg_tup rfl (pgs_cons (pg_name (i := 7) nd rfl (Or.inr rfl)) (pgs_cons (pg_name (i := 6) nd rfl (Or.inl rfl)) pgs_nil))) p3))), ?_⟩
  intro D s0 s1 s2 s4 s7 s8 s9 s10 x a q es H0 H1 kx S hn er go
  have k1 : List.lookup ("first" : Str) [(("last" : Str), V.int 7), (("first" : Str), x)] = some x := by
    rw [lookup_put, if_neg (by decide), lookup_put, if_pos rfl]
  have k2 : List.lookup ("last" : Str) [(("last" : Str), V.int 7), (("first" : Str), x)] = some (.int 7) := by
    rw [lookup_put, if_pos rfl]
  refine ⟨_, rfl, a, cl 59, _, x, rfl, L.C.fld, L.C.noF, er, k1, _, rfl, rfl, kx, false, rfl, ?_⟩
  refine iteF ?_
  refine ⟨_, rfl, a, cl 59, _, .int 7, rfl, L.C.fld, L.C.noL, er, k2, rfl, false, rfl, ?_⟩
  refine iteF ?_
  refine ⟨_, rfl, .inl ⟨rfl, _, SqL.of S.o⟩, _, rfl, q, _, _, rfl, rfl, S.o, (by rw [sizeLine_eq, List.length_map]; omega), ?_⟩
  have S2 := S.app (bs := [a]) fun j b z => by
    cases j with
    | zero => obtain rfl : a = b := by simpa using z
              exact ⟨_, by rw [hn]; exact er⟩
    | succ j => simp at z
  have e2 : (es ++ [a]).map V.ref = es.map V.ref ++ [.ref a] := by simp
  have n2 : (es ++ [a]).length = 60 := by simp [hn]
  rw [e2] at S2
  generalize es ++ [a] = es2 at S2 e2 n2
  refine ⟨_, rfl, q, _, rfl, SqL.of upd_same, fun i m σ H' => m = 60 - i ∧ i ≤ 60 ∧ ESt cl q H0 es2 H' ∧ ∃ s6 s7, σ = [s0, s1, s2, some x, s4, some (.ref q), s6, s7, s8, s9, s10], ⟨60, rfl, by decide, S2, _, _, rfl⟩, ?_⟩
  rintro i m σ H' ⟨rfl, hi, S3, s6', s7', rfl⟩
  by_cases lt : i < 60
  · refine .inr ⟨⟨_, V.ref (es2[i]'(by omega)), SqL.of S3.o, by simp⟩, fun σ' H'' => ESt cl q H0 es2 H'' ∧ ∃ s6 s7, σ' = [s0, s1, s2, some x, s4, some (.ref q), s6, s7, s8, s9, s10], fun σ' H'' h => ⟨60 - (i + 1), by omega, rfl, by omega, h⟩, ?_⟩
    rintro v H'' ⟨T, y, rfl, nT, rfl, hy⟩
    have hy2 : y = V.ref (es2[i]'(by omega)) := by
      have z := hy _ (SqL.of S3.o)
      rw [List.getElem?_map, List.getElem?_eq_getElem (by omega)] at z
      exact (Option.some.inj z).symm
    subst hy2
    have k : Same H' (upd H' T (.tup [.int (i : Nat), V.ref (es2[i]'(by omega))])) := fun c o z => by rw [upd_ne (ne_of_none z nT)]; exact z
    obtain ⟨fs, ef⟩ := S3.p i (es2[i]'(by omega)) (by simp)
    refine ⟨T, _, rfl, SqT.of upd_same, rfl, _, _, rfl, _, _, rfl, ?_⟩
    refine ⟨rfl, ?_⟩
    exact h3 _ s0 s1 s2 (some x) s4 (some (.ref q)) s8 s9 s10 i (es2[i]'(by omega)) fs _ lt (ef.same k) fun H3 sm => ⟨(S3.same k).same sm, _, _, rfl⟩
  · have e60 : i = 60 := by omega
    exact .inl ⟨⟨_, SqL.of S3.o, by rw [List.length_map]; omega⟩, go H' s6' s7' S3.old⟩
end
end L2.EV

namespace L2.EV
open PySem PySem.Spec PyProof.Rows _root_.EV
section
variable {P : Program} {w : World} {K : PySem.W.Frag} {mg : Str → Option Value} {base : Heap} {f fC fP fH : Addr} {fdC fdP fdH : FuncData} {cl ini : Nat → Addr} {W : Addr}
theorem law_body2 {cdv : Value} {A : Around} {outer : List Env} {s : Shared} {H : Hp} {E : XK} (L : LTx K mg cl ini W) (FC : Fun K "_law_classes" "_law_classes" sCls fC fdC) (gC : mg "_law_classes" = some (.ref fC))
    (FP : Fun K "_law_pairs" "_law_pairs" sPairs fP fdP) (gP : mg "_law_pairs" = some (.ref fP)) (FH : Fun K "_law_held" "_law_held" sHeld fH fdH) (gH : mg "_law_held" = some (.ref fH))
    (hr : Room 3 (A.deeper (envOfC "law" (defScope sLaw) s.heap.objs.size f cdv))) :
    ∃ t, PSs (cxOf CX0 P w K mg base LN "law" (defScope sLaw) f cdv A outer s H E).nox body2 t ∧
      ∀ (D : Ends) (s0 s1 s2 s5 s6 s7 s8 s9 s10 : Option V) (x : V) (hf : Int) (H1 : Hp), (hf = 0 ∨ hf = 1) → Xk H1 x →
        (∀ H' s5' s6' s7', Same H1 H' → D.nx [s0, s1, s2, some x, some (.int hf), s5', s6', s7', s8, s9, s10] H') →
        t D [s0, s1, s2, some x, some (.int hf), s5, s6, s7, s8, s9, s10] H1 := by
  obtain ⟨t4, p4, h4⟩ := law_tail (P := P) (w := w) (base := base) (cdv := cdv) (A := A) (outer := outer) (s := s) (H := H) (E := E) L FC gC hr
  have GP : FnOk P w K mg base CX0 3 fP fdP ["x"] (spPairs cl) := ok_pairs FP L.T
  have bP := FP.binds (ps := ["x"]) fun _ _ _ _ _ _ us hl => match us, hl with | [_], _ => rfl
  have GH : FnOk P w K mg base CX0 1 fH fdH ["errors"] (spHeld cl) := ok_held FH L.T
  have bH := FH.binds (ps := ["errors"]) fun _ _ _ _ _ _ us hl => match us, hl with | [_], _ => rfl
  have nd := scLaw.nd
  have hu64 := hr.units
  refine ⟨_, pss_cons (ps_setLc (i := 5) (own := [("pair", 8)]) (tt := tYes) rfl nd rfl rfl (sw_true rfl rfl rfl (by decide +kernel)) (pi_list (pe_call GP hr rfl gP FP.kp bP .nil pass0 (pa_cons (pv 3) pa_nil))) (blkOk_by (N := LN) (sc := defScope sLaw) (by decide +kernel))
      (fun _ _ _ _ _ => pg_name (i := 8) nd rfl (Or.inl rfl)) (fun _ _ _ _ _ => pts_nil) (fun _ _ _ _ _ => pe_ix (r := rIxT K) ix_tup (pv 8) (pv 4) (fun _ _ => rfl)))
    (pss_cons (ps_if (pt_val (pe_callB (cr_any rfl) rfl L.nA boot_any' (pa_cons (pe_lc (own := [("one", 9)]) (tt := tYes) rfl nd (pi_list (pe_call GH (hr.mono (by decide)) rfl gH FH.kp bH .nil pass0 (pa_cons (pv 5) pa_nil))) (blkOk_by (N := LN) (sc := defScope sLaw) (by decide +kernel))
        (fun _ _ _ _ _ => pg_name (i := 9) nd rfl (Or.inl rfl)) (fun _ _ _ _ _ => pts_nil) (fun _ _ _ _ _ => pe_or (pe_cmpR (op_neX hu64) (pv 9) (pv 3) (nomark _))
          (pe_one (pe_cmpR op_ne (pe_callB (r := rIsi K) call_isi rfl L.nI boot_isi (pa_cons (pv 9) (pa_cons (pe_bltn (v := .ty "bool") rfl L.nB boot_bool' rfl) pa_nil))) (pe_callB (r := rIsi K) call_isi rfl L.nI boot_isi (pa_cons (pv 3) (pa_cons (pe_bltn (v := .ty "bool") rfl L.nB boot_bool' rfl) pa_nil))) (nomark _))))) pa_nil))) (pss_one (ps_ret pe_bl)) pss_nil)
    (pss_cons (ps_expr (pe_bm PySem.F.plainAttrs_list PySem.F.slot_list_extend PySem.F.type_list_extend mt_extend (pv 5) (pa_cons (pe_lst (pa_cons (pe_err0 (L.e0 56 (by decide) (by decide)).1 (L.e0 56 (by decide) (by decide)).2 (L.Y.g 56 (by decide)))
        (pa_cons (pe_err0 (L.e0 57 (by decide) (by decide)).1 (L.e0 57 (by decide) (by decide)).2 (L.Y.g 57 (by decide))) (pa_cons (pe_err0 (L.e0 58 (by decide) (by decide)).1 (L.e0 58 (by decide) (by decide)).2 (L.Y.g 58 (by decide))) pa_nil)))) pa_nil)))
    (pss_cons (ps_set (i := 6) nd rfl (Or.inl rfl) (pe_ifExp (pt_cmpR op_eq (pv 4) pe_int (nomark _)) (pe_crK L.C (hr.mono (by decide)) (pv 3) pe_int) (pe_cr L.C (hr.mono (by decide)) (pv 3) pe_int))) p4))), ?_⟩
  intro D s0 s1 s2 s5 s6 s7 s8 s9 s10 x hf H1 hh kx go
  refine ⟨_, rfl, x, rfl, fun l ts H2 S => ⟨l, rfl, ⟨_, SqL.of S.o⟩, fun q nq => ?_⟩⟩
  refine lc_list (xs := ts.map V.ref) (fun i H' => Same H2 H' ∧ ∃ es : List Addr, H' q = some (.lst (es.map V.ref)) ∧ es.length = i ∧ ∀ k a, es[k]? = some a → ErrAt H2 a (cl k) [(fl k, x)])
    ⟨fun c o z => by rw [upd_ne (ne_of_none z nq)]; exact z, [], upd_same, rfl, fun k a e => by simp at e⟩ (fun i H' _ p => SqL.of (p.1 _ _ S.o)) ?_ ?_
  · rintro i v H3 ev ⟨sm, es, oq, ln, pe⟩
    rw [List.getElem?_map] at ev
    obtain ⟨t, et, rfl⟩ := Option.map_eq_some_iff.mp ev
    obtain ⟨a, b, e1, e2, e3⟩ := S.p i t et
    have fin : ∀ z, ErrAt H2 z (cl i) [(fl i, x)] → ∃ acc, H3 q = some (.lst acc) ∧ acc.length < sizeLine ∧ Same H2 (upd H3 q (.lst (acc ++ [.ref z]))) ∧
        ∃ es : List Addr, (upd H3 q (.lst (acc ++ [.ref z]))) q = some (.lst (es.map V.ref)) ∧ es.length = i + 1 ∧ ∀ k a, es[k]? = some a → ErrAt H2 a (cl k) [(fl k, x)] := fun z ez => by
      have hi : i < 56 := by
        have := S.n
        have z2 := (List.getElem?_eq_some_iff.mp et).1
        omega
      refine ⟨_, oq, (by rw [sizeLine_eq, List.length_map]; omega), fun c o y => by rw [upd_ne (ne_of_none y nq)]; exact sm c o y, es ++ [z], by rw [upd_same]; simp, by simp [ln], fun k a e => ?_⟩
      by_cases h1 : k < es.length
      · rw [List.getElem?_append_left h1] at e; exact pe k a e
      · rw [List.getElem?_append_right (by omega)] at e
        by_cases h2 : k = i
        · subst h2
          rw [ln, Nat.sub_self] at e
          obtain rfl : z = a := by simpa using e
          exact ez
        · rw [List.getElem?_eq_none (by show 1 ≤ _; omega)] at e; cases e
    refine ⟨rfl, ?_⟩
    rcases hh with rfl | rfl
    · refine ⟨_, rfl, _, rfl, t, _, 0, .ref a, rfl, rfl, SqT.of (sm _ _ e1), rfl, ?_⟩
      exact fin a e2
    · refine ⟨_, rfl, _, rfl, t, _, 1, .ref b, rfl, rfl, SqT.of (sm _ _ e1), rfl, ?_⟩
      exact fin b e3
  · rintro H3 ⟨sm, es, oq, ln, pe⟩
    have ln56 : es.length = 56 := by rw [ln, List.length_map, S.n]
    have R3 : Row cl x H3 es := ⟨ln56, fun k a e => (pe k a e).same sm⟩
    have all3 : Same H1 H3 := S.old.trans sm
    have nq1 : H1 q = none := S.old.free nq
    have S3 : ESt cl q H1 es H3 := ⟨oq, all3, nq1, fun k a e => ⟨_, R3.e k a e⟩⟩
    have kx3 : Xk H3 x := kx.same all3
    refine ⟨_, rfl, q, es, x, rfl, oq, R3, fun l2 H5 nl2 sm2 ol2 => ⟨l2, rfl, ⟨_, SqL.of ol2⟩, fun q2 nq2 => ?_⟩⟩
    have kx5 := kx3.same sm2
    refine lc_list (xs := List.replicate 56 x) (fun i H' => Same H5 H' ∧ H' q2 = some (.lst (List.replicate i (V.bl false)))) ⟨fun c o z => by rw [upd_ne (ne_of_none z nq2)]; exact z, upd_same⟩ (fun i H' _ p => SqL.of (p.1 _ _ ol2)) ?_ ?_
    · rintro i v H6 ev ⟨sm6, o6⟩
      have hi : i < 56 := by
        have z := (List.getElem?_eq_some_iff.mp ev).1
        simpa using z
      obtain rfl : x = v := by
        rw [List.getElem?_replicate, if_pos hi] at ev
        exact Option.some.inj ev
      have kx6 := kx5.same sm6
      obtain ⟨ty, b, ht, hk⟩ := xk_bool (K := K) kx6
      refine ⟨rfl, ?_⟩
      refine ⟨_, rfl, _, rfl, rfl, kx6, false, rfl, ?_⟩
      refine iteF ?_
      refine ⟨_, rfl, x, _, ty, _, b, rfl, .ty _, ht, hk, ?_⟩
      refine ⟨_, rfl, x, _, ty, _, b, rfl, .ty _, ht, hk, ?_⟩
      refine ⟨rfl, _, o6, (by rw [sizeLine_eq, List.length_replicate]; omega), fun c o y => by rw [upd_ne (ne_of_none y nq2)]; exact sm6 c o y, ?_⟩
      rw [upd_same, decide_eq_true rfl]
      show some (HO.lst (List.replicate i (V.bl false) ++ List.replicate 1 (V.bl false))) = _
      rw [List.replicate_append_replicate]
    · rintro H6 ⟨sm6, o6⟩
      have e6 : List.replicate (List.replicate 56 x).length (V.bl false) = (List.replicate 56 false).map V.bl := by simp
      rw [e6] at o6
      refine ⟨q2, List.replicate 56 false, rfl, SqL.of o6, false, rfl, ?_⟩
      refine iteF ?_
      have S6 := (S3.same sm2).same sm6
      have kx7 := kx5.same sm6
      refine ⟨_, rfl, .inl ⟨rfl, _, SqL.of S6.o⟩, fun a1 n1 a2 n2 a3 n3 => ⟨(by rw [sizeLine_eq]; show 3 ≤ _; omega), fun q3 nq3 => ?_⟩⟩
      have c1 : Same H6 (upd H6 a1 (exo a1 (cl 56) none)) := fun c o z => by rw [upd_ne (ne_of_none z n1)]; exact z
      have c2 : Same (upd H6 a1 (exo a1 (cl 56) none)) (upd (upd H6 a1 (exo a1 (cl 56) none)) a2 (exo a2 (cl 57) none)) := fun c o z => by rw [upd_ne (ne_of_none z n2)]; exact z
      have c3 : Same (upd (upd H6 a1 (exo a1 (cl 56) none)) a2 (exo a2 (cl 57) none)) (upd (upd (upd H6 a1 (exo a1 (cl 56) none)) a2 (exo a2 (cl 57) none)) a3 (exo a3 (cl 58) none)) := fun c o z => by rw [upd_ne (ne_of_none z n3)]; exact z
      have c4 : Same (upd (upd (upd H6 a1 (exo a1 (cl 56) none)) a2 (exo a2 (cl 57) none)) a3 (exo a3 (cl 58) none)) (upd (upd (upd (upd H6 a1 (exo a1 (cl 56) none)) a2 (exo a2 (cl 57) none)) a3 (exo a3 (cl 58) none)) q3 (.lst [.ref a1, .ref a2, .ref a3])) := fun c o z => by rw [upd_ne (ne_of_none z nq3)]; exact z
      have c34 := c3.trans c4
      have c234 := c2.trans c34
      have S7 := S6.same (c1.trans c234)
      have kx8 := kx7.same (c1.trans c234)
      have x1 : ErrAt (upd (upd (upd (upd H6 a1 (exo a1 (cl 56) none)) a2 (exo a2 (cl 57) none)) a3 (exo a3 (cl 58) none)) q3 (.lst [.ref a1, .ref a2, .ref a3])) a1 (cl 56) [] := .inl ⟨rfl, c234 _ _ upd_same⟩
      have x2 : ErrAt (upd (upd (upd (upd H6 a1 (exo a1 (cl 56) none)) a2 (exo a2 (cl 57) none)) a3 (exo a3 (cl 58) none)) q3 (.lst [.ref a1, .ref a2, .ref a3])) a2 (cl 57) [] := .inl ⟨rfl, c34 _ _ upd_same⟩
      have x3 : ErrAt (upd (upd (upd (upd H6 a1 (exo a1 (cl 56) none)) a2 (exo a2 (cl 57) none)) a3 (exo a3 (cl 58) none)) q3 (.lst [.ref a1, .ref a2, .ref a3])) a3 (cl 58) [] := .inl ⟨rfl, c4 _ _ upd_same⟩
      have z3 : (upd (upd (upd (upd H6 a1 (exo a1 (cl 56) none)) a2 (exo a2 (cl 57) none)) a3 (exo a3 (cl 58) none)) q3 (.lst [.ref a1, .ref a2, .ref a3])) q3 = some (.lst [.ref a1, .ref a2, .ref a3]) := upd_same
      refine ⟨q, q3, _, _, rfl, rfl, S7.o, z3, (by rw [sizeLine_eq, List.length_map]; show es.length + 3 ≤ _; omega), ?_⟩
      generalize upd (upd (upd (upd H6 a1 (exo a1 (cl 56) none)) a2 (exo a2 (cl 57) none)) a3 (exo a3 (cl 58) none)) q3 (.lst [.ref a1, .ref a2, .ref a3]) = H7 at S7 kx8 x1 x2 x3 z3 ⊢
      have S8 := S7.app (bs := [a1, a2, a3]) fun j b z => by
        rw [ln56]
        match j, z with
        | 0, z => obtain rfl : a1 = b := by simpa using z
                  exact ⟨_, x1⟩
        | 1, z => obtain rfl : a2 = b := by simpa using z
                  exact ⟨_, x2⟩
        | 2, z => obtain rfl : a3 = b := by simpa using z
                  exact ⟨_, x3⟩
        | j + 3, z => simp at z
      have e8 : (es ++ [a1, a2, a3]).map V.ref = es.map V.ref ++ [.ref a1, .ref a2, .ref a3] := by simp
      rw [e8] at S8
      have n59 : (es ++ [a1, a2, a3]).length = 59 := by simp [ln56]
      have kx9 : Xk (upd H7 q (.lst (es.map V.ref ++ [.ref a1, .ref a2, .ref a3]))) x := kx.same S8.old
      refine ⟨_, rfl, rfl, _, rfl, ite2 (fun e => ?_) (fun e => ?_)⟩
      · refine ⟨_, rfl, fun a H8 na sa ea => ?_⟩
        exact h4 D s0 s1 s2 (some (.int hf)) s7 s8 s9 s10 x a q _ H1 H8 (kx9.same sa) (S8.same sa) n59 ea fun H' s6' s7' sm => go H' _ s6' s7' sm
      · refine ⟨_, rfl, fun a H8 na sa ea => ?_⟩
        exact h4 D s0 s1 s2 (some (.int hf)) s7 s8 s9 s10 x a q _ H1 H8 (kx9.same sa) (S8.same sa) n59 ea fun H' s6' s7' sm => go H' _ s6' s7' sm
end
end L2.EV

namespace L2.EV
open PySem PySem.Spec PyProof.Rows _root_.EV
theorem Strm.same {H H' : Hp} {l ls : Addr} {N : Int} (h : Strm H l ls N) (s : Same H H') : Strm H' l ls N := by
  obtain ⟨cs, g, k, m, S⟩ := h
  exact ⟨cs, g, k, m, s _ _ S.o, s _ _ S.c, S.ne, S.g0, S.k0, S.k1, S.m0, S.m1, S.sz⟩
theorem Strm.some {H : Hp} {l ls : Addr} {N : Int} (h : Strm H l ls N) : (∃ o, H l = some o) ∧ ∃ o, H ls = some o := by
  obtain ⟨cs, g, k, m, S⟩ := h
  exact ⟨⟨_, S.o⟩, ⟨_, S.c⟩⟩
theorem same_new {H : Hp} {p : Addr} {o : HO} (n : H p = none) : Same H (upd H p o) := fun c u z => by rw [upd_ne (ne_of_none z n)]; exact z
theorem mem9 {a b c d e f g h i x : V} (m : x ∈ [a, b, c, d, e, f, g, h, i]) : x = a ∨ x = b ∨ x = c ∨ x = d ∨ x = e ∨ x = f ∨ x = g ∨ x = h ∨ x = i := by simpa using m
def spLaw (K : PySem.W.Frag) : Sp := fun vs H Q _ => ∃ (a : Addr) (ns : List Int), vs = [.ref a] ∧ SqL K H a (ns.map V.int) ∧ ns.length ≤ 100 ∧ ∀ H', Q (.bl true) H'
section
variable {P : Program} {w : World} {K : PySem.W.Frag} {mg : Str → Option Value} {base : Heap} {f fC fP fH fS fK fD : Addr} {fd fdC fdP fdH fdS fdK fdD : FuncData} {cl ini : Nat → Addr} {W : Addr}
theorem ok_law (L : LTx K mg cl ini W) (F : Fun K "law" "law" sLaw f fd) (FC : Fun K "_law_classes" "_law_classes" sCls fC fdC) (gC : mg "_law_classes" = some (.ref fC))
    (FP : Fun K "_law_pairs" "_law_pairs" sPairs fP fdP) (gP : mg "_law_pairs" = some (.ref fP)) (FH : Fun K "_law_held" "_law_held" sHeld fH fdH) (gH : mg "_law_held" = some (.ref fH))
    (FS : Fun K "_law_start" "_law_start" sStart fS fdS) (gS : mg "_law_start" = some (.ref fS)) (FK : Fun K "_law_pick" "_law_pick" sPick fK fdK) (gK : mg "_law_pick" = some (.ref fK))
    (FD : Fun K "_law_draw" "_law_draw" sDraw fD fdD) (gD : mg "_law_draw" = some (.ref fD)) : FnOk P w K mg base CX0 4 f fd ["script"] (spLaw K) := by
  refine F.ok scLaw (fun vs H Q E h => by obtain ⟨a, ns, h, _⟩ := h; rw [h]; rfl) fun cdv A outer s H vs Q E hr hsp => ?_
  obtain ⟨a, ns, rfl, hS, hn, hq⟩ := hsp
  obtain ⟨t2, p2, h2⟩ := law_body2 (P := P) (w := w) (base := base) (f := f) (cdv := cdv) (A := A) (outer := outer) (s := s) (H := H) (E := E) L FC gC FP gP FH gH hr
  have GS : FnOk P w K mg base CX0 1 fS fdS ["script"] (spStart K) := ok_start FS L.nList
  have bS := FS.binds (ps := ["script"]) fun _ _ _ _ _ _ us hl => match us, hl with | [_], _ => rfl
  have GK : FnOk P w K mg base CX0 2 fK fdK ["stream", "some"] (spPick K) := ok_pick FK FD gD L.nInt L.nLen
  have bK := FK.binds (ps := ["stream", "some"]) fun _ _ _ _ _ _ us hl => match us, hl with | [_, _], _ => rfl
  have nd := scLaw.nd
  refine ⟨_, pss_cons (ps_set (i := 1) nd rfl (Or.inl rfl) (pe_call GS (hr.mono (by decide)) rfl gS FS.kp bS .nil pass0 (pa_cons (pv 0) pa_nil)))
    (pss_cons (ps_for PassesOwn.never rfl (pi_range1 rfl L.nR (pa_cons pe_int pa_nil)) (pg_name (i := 2) nd rfl (Or.inl rfl))
      (pss_cons (ps_set (i := 3) nd rfl (Or.inr rfl) (pe_call GK (hr.mono (by decide)) rfl gK FK.kp bK .nil pass0 (pa_cons (pv 1) (pa_cons (pe_lst (pa_cons pe_non (pa_cons pe_int (pa_cons (pe_un un_neg pe_int) (pa_cons pe_str
        (pa_cons (pe_lst (pa_cons (pv 2) pa_nil)) (pa_cons (pe_tup (pa_cons pe_int (pa_cons (pe_lst (pa_cons pe_int pa_nil)) pa_nil))) (pa_cons (pe_disp (pps_cons pe_str pe_int pps_nil) rfl rfl (by decide) (by decide))
        (pa_cons pe_bl (pa_cons (pe_op op_pow pe_int pe_int) pa_nil)))))))))) pa_nil))))
      (pss_one (ps_for PassesOwn.never rfl (pi_range1 rfl L.nR (pa_cons pe_int pa_nil)) (pg_name (i := 4) nd rfl (Or.inr rfl)) p2))))
    (pss_one (ps_ret (pe_callB call_isErr rfl L.nI boot_isi (pa_cons (pe_err0 L.w0.1 L.w0.2 L.Y.wg) (pa_cons (pe_bltn (v := .ty "ValueError") rfl L.nV boot_ve rfl) pa_nil)))))), ?_⟩
  refine ⟨_, rfl, a, ns, rfl, hS, hn, fun H1 l ls nl sm St nls => ?_⟩
  refine ⟨4, rfl, by decide, by decide, for_range (n := 4) (fun i σ H => Strm H l ls i ∧ ∃ s2 s3 s4 s5 s6 s7 s8 s9 s10, σ = [some (.ref a), some (.ref l), s2, s3, s4, s5, s6, s7, s8, s9, s10]) ⟨St, _, _, _, _, _, _, _, _, _, rfl⟩ ?_ ?_⟩
  · rintro i σ H2 hi ⟨St, s2, s3, s4, s5, s6, s7, s8, s9, s10, rfl⟩
    refine ⟨_, rfl, _, rfl, _, rfl, (by rw [sizeLine_eq]; show 1 ≤ _; omega), fun p1 np1 => ?_⟩
    refine ⟨(by rw [sizeLine_eq]; show 1 ≤ _; omega), fun p2 np2 => ⟨(by rw [sizeLine_eq]; show 2 ≤ _; omega), fun p3 np3 => fun p4 np4 => ⟨upd_same, [(.inr "a", .int 1)], rfl, (by show 1 ≤ 15; omega), ?_⟩⟩⟩
    refine ⟨_, _, rfl, rfl, ⟨by decide, by decide, by decide⟩, (by rw [sizeLine_eq]; show 9 ≤ _; omega), fun c nc => ?_⟩
    have c1 := same_new (o := .lst [.int (0 + i)]) np1
    have c2 := same_new (o := .lst [.int 2]) np2
    have c3 := same_new (o := .tup [.int 1, .ref p2]) np3
    have c4 : Same (upd (upd (upd H2 p1 (.lst [.int (0 + i)])) p2 (.lst [.int 2])) p3 (.tup [.int 1, .ref p2]))
        (upd (upd (upd (upd (upd H2 p1 (.lst [.int (0 + i)])) p2 (.lst [.int 2])) p3 (.tup [.int 1, .ref p2])) p4 (.dK [])) p4 (.dK (mergeK [] [(.inr "a", .int 1)]))) := by
      rw [upd_upd]; exact same_new np4
    have o4 : (upd (upd (upd (upd (upd H2 p1 (.lst [.int (0 + i)])) p2 (.lst [.int 2])) p3 (.tup [.int 1, .ref p2])) p4 (.dK [])) p4 (.dK (mergeK [] [(.inr "a", .int 1)]))) p4 = some (.dK [(.inr "a", .int 1)]) := upd_same
    have o3 := c4 _ _ (upd_same (H := upd (upd H2 p1 (.lst [.int (0 + i)])) p2 (.lst [.int 2])) (a := p3) (o := .tup [.int 1, .ref p2]))
    have o2 := (c3.trans c4) _ _ (upd_same (H := upd H2 p1 (.lst [.int (0 + i)])) (a := p2) (o := .lst [.int 2]))
    have o1 := ((c2.trans c3).trans c4) _ _ (upd_same (H := H2) (a := p1) (o := .lst [.int (0 + i)]))
    have all := ((c1.trans c2).trans c3).trans c4
    obtain ⟨⟨ol, hl⟩, ⟨os, hs⟩⟩ := St.some
    have f : ∀ {p : Addr} {Hx : Hp}, Same H2 Hx → Hx p = none → p ≠ l ∧ p ≠ ls := fun {p Hx} s n =>
      ⟨(fun z => by rw [z, s _ _ hl] at n; cases n), (fun z => by rw [z, s _ _ hs] at n; cases n)⟩
    have q1 := f (Same.refl _) np1
    have q2 := f c1 np2
    have q3 := f (c1.trans c2) np3
    have q4 := f ((c1.trans c2).trans c3) np4
    have q5 := f all nc
    refine ⟨l, ls, c, _, i, rfl, (St.same all).same (same_new nc), by omega, q5.1, q5.2, upd_same, (by show 0 < 9; omega), (by show 9 < 1000; omega), fun H5 x hx S5 B5 => ?_⟩
    have c5 := same_new (o := .lst [.non, .int 5, .int (-1), .str "a", .ref p1, .ref p3, .ref p4, .bl true, .int (10 ^ Int.toNat 14)]) nc
    have kx : Xk H5 x := by
      rcases mem9 hx with rfl | rfl | rfl | rfl | rfl | rfl | rfl | rfl | rfl
      · exact .non
      · exact .int _
      · exact .int _
      · exact .str _
      · exact .lst _ (B5 _ _ q1.1 q1.2 (c5 _ _ o1))
      · exact .tup (B5 _ _ q3.1 q3.2 (c5 _ _ o3)) (B5 _ _ q2.1 q2.2 (c5 _ _ o2))
      · exact .dct (B5 _ _ q4.1 q4.2 (c5 _ _ o4))
      · exact .bl _
      · exact .int _
    refine ⟨2, rfl, by decide, by decide, for_range (n := 2) (fun j σ H => Strm H l ls (i + 1) ∧ Xk H x ∧ ∃ s4 s5 s6 s7 s8 s9 s10, σ = [some (.ref a), some (.ref l), some (.int (0 + i)), some x, s4, s5, s6, s7, s8, s9, s10]) ⟨S5, kx, _, _, _, _, _, _, _, rfl⟩ ?_ ?_⟩
    · rintro j σ H6 hj ⟨S6, kx6, s4', s5', s6', s7', s8', s9', s10', rfl⟩
      exact h2 _ _ _ _ _ _ _ _ _ _ x (0 + (j : Int)) H6 (by omega) kx6 fun H' t5 t6 t7 sm => ⟨S6.same sm, kx6.same sm, _, _, _, _, _, _, _, rfl⟩
    · rintro σ H6 ⟨S6, kx6, s4', s5', s6', s7', s8', s9', s10', rfl⟩
      exact ⟨S6, _, _, _, _, _, _, _, _, _, rfl⟩
  · rintro σ H2 _
    refine fun b nb => ⟨b, W, [], .ty "ValueError", .type "ValueError", true, rfl, .inl ⟨rfl, upd_same⟩, .ty _, L.wx, L.wV, hq _⟩
end
end L2.EV
namespace L2.EV
open PySem PySem.Spec PyProof.Rows
structure ClsAt (K : PySem.W.Frag) (C : Addr) (bm : List Value) : Prop where
  ex : ∃ nm q N bs sn sub ab col dd k0 k1 k2 k3 k5, K.lookup C = some (excClassObj nm q C N bs bm true sn sub ab col dd k0 k1 k2 k3 k5 "ValueError.__new__")
theorem clsB_ok {K : PySem.W.Frag} {C : Addr} {bm0 : List Value} (h : clsB K C bm0 = true) : ClsAt K C bm0 := by
  unfold clsB at h
  split at h
  · rename_i dd cd sl lk
    split at h
    · rename_i C' bm k0 k1 k2 k3 n k5 em es
      simp only [Bool.and_eq_true, beq_iff_eq, Bool.not_eq_true'] at h
      obtain ⟨rfl, rfl, hd, hh, rfl⟩ := h
      obtain ⟨nm, bs, mro, ns, qn, hdc, sn, sub, ab, col, del⟩ := cd
      dsimp only at em hd hh
      subst em hd hh
      have e : sl = #[k0, k1, k2, k3, some (.builtin "ValueError.__new__"), k5] := by
        obtain ⟨l⟩ := sl
        simp only at es
        rw [es]
      subst e
      exact ⟨nm, qn, ns, bs, sn, sub, ab, col, dd, k0, k1, k2, k3, k5, lk⟩
    · cases h
  · cases h
section
variable {K : PySem.W.Frag} {C : Addr} {bm : List Value}
theorem ClsAt.cls (h : ClsAt K C bm) : ∃ cd, PySem.W.clsIn K C = some cd ∧ cd.mro = .ref C :: bm ∧ cd.hasDict = true := by
  obtain ⟨nm, q, N, bs, sn, sub, ab, col, dd, k0, k1, k2, k3, k5, lk⟩ := h.ex
  exact ⟨_, by unfold PySem.W.clsIn; rw [lk] <;> rfl, rfl, rfl⟩
theorem ClsAt.ty (h : ClsAt K C bm) : PySem.W.typeIn K (.ref C) = some (.type "type") := by
  obtain ⟨nm, q, N, bs, sn, sub, ab, col, dd, k0, k1, k2, k3, k5, lk⟩ := h.ex
  show (K.lookup C).map _ = _
  rw [lk]; rfl
theorem ClsAt.hd (h : ClsAt K C bm) : PySem.W.hasDictIn K C = true := by
  obtain ⟨cd, e, _, hh⟩ := h.cls
  unfold PySem.W.hasDictIn
  rw [e]; exact hh
theorem ClsAt.sub (h : ClsAt K C bm) (v : Value) : PySem.W.mroIn K C v = some ((Value.ref C :: bm).contains v) := by
  obtain ⟨cd, e, em, _⟩ := h.cls
  unfold PySem.W.mroIn
  rw [e, Option.bind_some, em]; rfl
theorem ClsAt.kit (h : ClsAt K C bm) {D : Addr} {bm' : List Value} (h' : ClsAt K D bm') : PySem.W.kitOne K (.ref C) (.ref D) = some ((Value.ref C :: bm).contains (.ref D)) := by
  unfold PySem.W.kitOne
  by_cases e : C = D
  · subst e
    rw [if_pos (by simp)]; simp
  · have ne : ¬ (Value.ref C == Value.ref D) = true := fun z => e (Value.ref.inj (beq_iff_eq.mp z))
    rw [if_neg ne]
    unfold PySem.W.kitCls
    obtain ⟨cd, ec, _⟩ := h'.cls
    have z : ((PySem.W.clsIn K D).isSome && PySem.W.typeIn K (.ref D) == some (.type "type")) = true := by rw [ec, h'.ty]; rfl
    show (if _ then _ else _) = _
    rw [if_pos z]
    exact h.sub _
theorem ClsAt.kitV (h : ClsAt K C bm) (hm : bm.contains (.type "ValueError") = true) : PySem.W.kitOne K (.ref C) (.type "ValueError") = some true := by
  unfold PySem.W.kitOne
  rw [if_neg (by intro z; have z2 := beq_iff_eq.mp z; cases z2)]
  show (if PySem.W.kitMeta "ValueError" = true then PySem.W.subIn K (.ref C) (.type "ValueError") else none) = some true
  rw [if_pos (by decide +kernel)]
  have e := h.sub (.type "ValueError")
  have e2 : (Value.ref C :: bm).contains (.type "ValueError") = true := by
    rw [List.contains_cons, hm, Bool.or_true]
  rw [e2] at e
  exact e
end
end L2.EV
namespace L2.EV
open PySem PySem.Spec PyProof.Rows _root_.EV
theorem cl_inj : ∀ i j : Nat, i < 60 → j < 60 → cl i = cl j → i = j := by
  have h : ((List.range 60).all fun i => (List.range 60).all fun j => !(cl i == cl j) || i == j) = true := by decide +kernel
  intro i j hi hj e
  have h1 := List.all_eq_true.mp h i (List.mem_range.mpr hi)
  have h2 := List.all_eq_true.mp h1 j (List.mem_range.mpr hj)
  rw [e] at h2
  simpa using h2
theorem cl_W : ∀ i : Nat, i < 60 → ¬ cl i = WA := by
  have h : ((List.range 60).all fun i => !(cl i == WA)) = true := by decide +kernel
  intro i hi e
  have h1 := List.all_eq_true.mp h i (List.mem_range.mpr hi)
  rw [e] at h1
  simp at h1
theorem ref_beq (a b : Addr) : (Value.ref a == Value.ref b) = decide (a = b) := by
  by_cases h : a = b
  · subst h; simp
  · rw [decide_eq_false h]
    exact Bool.eq_false_iff.mpr fun z => h (Value.ref.inj (beq_iff_eq.mp z))
theorem ref_ty (a : Addr) (t : String) : (Value.ref a == Value.type t) = false := Bool.eq_false_iff.mpr fun z => by
  have z2 := beq_iff_eq.mp z
  cases z2
theorem has_cls (i j : Nat) (hi : i < 60) (hj : j < 60) : (Value.ref (cl i) :: bmK).contains (.ref (cl j)) = decide (j = i) := by
  rw [List.contains_cons, List.contains_cons, List.contains_cons, List.contains_cons, List.contains_cons, List.contains_cons, List.contains_nil]
  rw [ref_beq, ref_beq, ref_ty, ref_ty, ref_ty, ref_ty, decide_eq_false (cl_W j hj)]
  by_cases e : j = i
  · subst e; simp
  · have n : ¬ cl j = cl i := fun z => e (cl_inj j i hj hi z)
    rw [decide_eq_false e, decide_eq_false n]; rfl
theorem has_W (i : Nat) : (Value.ref (cl i) :: bmK).contains (.ref WA) = true := by
  rw [List.contains_cons, List.contains_cons, ref_beq, ref_beq]; simp
theorem has_ve (C : Addr) : (Value.ref C :: bmK).contains (.type "BaseException") = true ∧ (Value.ref C :: bmK).contains (.type "object") = true ∧ bmK.contains (.type "ValueError") = true ∧
    (Value.ref C :: veB).contains (.type "BaseException") = true ∧ (Value.ref C :: veB).contains (.type "object") = true ∧ veB.contains (.type "ValueError") = true := by
  refine ⟨?_, ?_, by decide +kernel, ?_, ?_, by decide +kernel⟩ <;> (rw [List.contains_cons, Bool.or_eq_true]; right; decide +kernel)
theorem b2 {a b : Bool} (h : (a && b) = true) : a = true ∧ b = true := Bool.and_eq_true_iff.mp h
section
variable {K : PySem.W.Frag} {h : Heap} {mg : Str → Option Value}
theorem excC_of {C : Addr} {bm : List Value} (A : ClsAt K C bm) (hc : comB K C = true) (h1 : (Value.ref C :: bm).contains (.type "BaseException") = true) (h2 : (Value.ref C :: bm).contains (.type "object") = true)
    (hn : PySem.W.specialIn K (.builtin "object.__class__") "__get__" = some (some (.builtin "getset_descriptor.__get__"))) (ht : PySem.W.takesIn K (.builtin "object.__class__") = some true) : ExcC K C := by
  obtain ⟨c1, hc⟩ := b2 hc
  obtain ⟨c2, hc⟩ := b2 hc
  obtain ⟨c3, c4⟩ := b2 hc
  refine ⟨He.eqO_ok c1, He.eqO_ok c2, ?_, A.hd, He.eqO_ok c3, hn, ht, ?_⟩
  · have e := A.sub (.type "BaseException"); rw [h1] at e; exact e
  · have e := A.sub (.type "object"); rw [h2] at e; exact e
theorem xfC_of {C : Addr} (E : ExcC K C) : XfC K C := ⟨E.hg, E.hk, E.hs, E.hd⟩
theorem oexC_of {C : Addr} (A : ClsAt K C bmK) (E : ExcC K C) (sa : PySem.W.findIn K (.ref C) "__setattr__" = some (some (.builtin "object.__setattr__"))) (kC : PySem.W.keepIn K (.ref C) = true) : OexC K C := by
  refine ⟨?_, sa, E.hs, A.ty, kC⟩
  obtain ⟨nm, q, N, bs, sn, sub, ab, col, dd, k0, k1, k2, k3, k5, lk⟩ := A.ex
  exact ⟨nm, q, N, bs, _, sn, sub, ab, col, dd, k0, k1, k2, k3, k5, lk, by decide +kernel⟩
theorem fn_at {a : Addr} {d : DefT} (e : fnA K d.1 = d.val) (c : codeB K d.1 d.2.2.1 = true) :
    ∃ (oc : Value) (od : Option Addr) (kV doc pm : Value) (an : Option Addr) (cdv ct : Value) (osl : Array (Option Value)),
      K.lookup d.1 = some ⟨oc, od, .func (PySem.W.fnOf d.2.1 d.2.2.1 (defArgs d.2.2.2) (defBody d.2.2.2) (defScope d.2.2.2) .none kV doc pm an cdv ct), osl⟩ ∧ PySem.W.codeIn K cdv d.2.2.1 = true := by
  unfold fnA at e
  unfold codeB at c
  cases q : K.lookup d.1 with
  | none => rw [q] at c; cases c
  | some o =>
    obtain ⟨oc, od, dt, osl⟩ := o
    rw [q] at c e
    cases dt with
    | func fd =>
      obtain ⟨n1, n2, n3, n4, n5, n6, n7, n8, n9, n10, n11, n12, n13, n14, n15⟩ := fd
      have e2 : (some (n1, n2, n3, n4, n5, n6, n7, n8, n15) : He.FnV) = some (d.2.1, d.2.2.1, defArgs d.2.2.2, .stmts (defBody d.2.2.2), defScope d.2.2.2, mainGlobals, [], .none, builtinsNs) := e
      simp only [Option.some.injEq, Prod.mk.injEq] at e2
      obtain ⟨h1, h2, h3, h4, h5, h6, h7, h8, h9⟩ := e2
      subst h1 h2 h3 h4 h5 h6 h7 h8 h9
      exact ⟨oc, od, n9, n10, n11, n12, n13, n14, osl, rfl, c⟩
    | _ => cases c
structure Says (K : PySem.W.Frag) : Prop where
  ok1 : chk1 K = true
  ok2 : chk2 K = true
  ok3 : chk3 K = true
  fn : ∀ (i : Nat) (d : DefT), defsT[i]? = some d → fnA K d.1 = d.val
theorem says_of (c : obE K = valK) : Says K := by
  have c0 : (chk1 K && (chk2 K && chk3 K)) = true := congrArg (fun z : AlK => z.1) c
  obtain ⟨z1, z2⟩ := b2 c0
  obtain ⟨z2, z3⟩ := b2 z2
  refine ⟨z1, z2, z3, fun i d e => ?_⟩
  have e1 : defsT.map (fun d => fnA K d.1) = defsT.map DefT.val := congrArg (fun z : AlK => z.2) c
  have e2 : (defsT.map fun d => fnA K d.1)[i]? = (defsT.map DefT.val)[i]? := by rw [e1]
  rw [List.getElem?_map, List.getElem?_map, e] at e2
  exact Option.some.inj e2
structure Chk (K : PySem.W.Frag) : Prop where
  one : ∀ i, i < 60 → oneB K (nm i) (cl i) bmK = true
  inb : ∀ i, i < 56 → initB K (cl i) (ini i) = true ∧ noB K (cl i) (fl i) = true
  cr : initB K (cl 59) (ini 59) = true ∧ noB K (cl 59) "first" = true ∧ noB K (cl 59) "last" = true
  w : oneB K "WorldError" WA veB = true
  ex : ∀ C, C = cl 56 ∨ C = cl 57 ∨ C = cl 58 ∨ C = WA → PySem.W.excIn K C veB "ValueError.__new__" = true
  fr : ∀ x ∈ frees, frB K x = true
  df : ∀ p ∈ lawDefs, defB K p.1 p.2 = true
  co : ∀ d ∈ defsT, codeB K d.1 d.2.2.1 = true
  hn : PySem.W.specialIn K (.builtin "object.__class__") "__get__" = some (some (.builtin "getset_descriptor.__get__"))
  ht : PySem.W.takesIn K (.builtin "object.__class__") = some true
theorem chk_of (S : Says K) : Chk K := by
  have c1 := S.ok1
  have c8 := S.ok3
  obtain ⟨c2, c⟩ := b2 S.ok2
  obtain ⟨c3, c⟩ := b2 c
  obtain ⟨c4, c⟩ := b2 c
  obtain ⟨c5, c⟩ := b2 c
  obtain ⟨c6, c⟩ := b2 c
  obtain ⟨c7, c⟩ := b2 c
  obtain ⟨c9, c10⟩ := b2 c
  refine ⟨fun i hi => List.all_eq_true.mp c1 i (List.mem_range.mpr hi), fun i hi => b2 (List.all_eq_true.mp c2 i (List.mem_range.mpr hi)), ⟨(b2 c3).1, b2 (b2 c3).2⟩, c4, fun C hC => List.all_eq_true.mp c5 C ?_, fun x hx => List.all_eq_true.mp c6 x hx,
    fun p hp => List.all_eq_true.mp c7 p hp, fun d hd => List.all_eq_true.mp c8 d hd, He.eqO_ok c9, of_decide_eq_true c10⟩
  rcases hC with e | e | e | e <;> subst e <;> simp
def IniAt (K : PySem.W.Frag) (i : Nat) : Prop := ∃ (oc : Value) (od : Option Addr) (kV doc pm : Value) (an : Option Addr) (cdv ct : Value) (osl : Array (Option Value)) (qual : Str) (p1 p2 q1 q2 q3 q4 : Pos),
    K.lookup (ini i) = some ⟨oc, od, .func (PySem.W.fnOf "__init__" qual (inArgs (fl i) p1 p2) (inBody (fl i) q1 q2 q3 q4) (inScope (fl i)) .none kV doc pm an cdv ct), osl⟩ ∧ PySem.W.codeIn K cdv qual = true
theorem fnI_0 (S : Says K) (c : Chk K) : IniAt K 0 := by
  obtain ⟨oc, od, kV, doc, pm, an, cdv, ct, osl, lk, hcd⟩ := fn_at (a := 0) (S.fn 7 _ rfl) (c.co _ (List.mem_of_getElem? (i := 7) rfl))
  exact ⟨oc, od, kV, doc, pm, an, cdv, ct, osl, _, _, _, _, _, _, _, lk, hcd⟩
theorem fnI_1 (S : Says K) (c : Chk K) : IniAt K 1 := by
  obtain ⟨oc, od, kV, doc, pm, an, cdv, ct, osl, lk, hcd⟩ := fn_at (a := 0) (S.fn 8 _ rfl) (c.co _ (List.mem_of_getElem? (i := 8) rfl))
  exact ⟨oc, od, kV, doc, pm, an, cdv, ct, osl, _, _, _, _, _, _, _, lk, hcd⟩
theorem fnI_2 (S : Says K) (c : Chk K) : IniAt K 2 := by
  obtain ⟨oc, od, kV, doc, pm, an, cdv, ct, osl, lk, hcd⟩ := fn_at (a := 0) (S.fn 9 _ rfl) (c.co _ (List.mem_of_getElem? (i := 9) rfl))
  exact ⟨oc, od, kV, doc, pm, an, cdv, ct, osl, _, _, _, _, _, _, _, lk, hcd⟩
theorem fnI_3 (S : Says K) (c : Chk K) : IniAt K 3 := by
  obtain ⟨oc, od, kV, doc, pm, an, cdv, ct, osl, lk, hcd⟩ := fn_at (a := 0) (S.fn 10 _ rfl) (c.co _ (List.mem_of_getElem? (i := 10) rfl))
  exact ⟨oc, od, kV, doc, pm, an, cdv, ct, osl, _, _, _, _, _, _, _, lk, hcd⟩
theorem fnI_4 (S : Says K) (c : Chk K) : IniAt K 4 := by
  obtain ⟨oc, od, kV, doc, pm, an, cdv, ct, osl, lk, hcd⟩ := fn_at (a := 0) (S.fn 11 _ rfl) (c.co _ (List.mem_of_getElem? (i := 11) rfl))
  exact ⟨oc, od, kV, doc, pm, an, cdv, ct, osl, _, _, _, _, _, _, _, lk, hcd⟩
theorem fnI_5 (S : Says K) (c : Chk K) : IniAt K 5 := by
  obtain ⟨oc, od, kV, doc, pm, an, cdv, ct, osl, lk, hcd⟩ := fn_at (a := 0) (S.fn 12 _ rfl) (c.co _ (List.mem_of_getElem? (i := 12) rfl))
  exact ⟨oc, od, kV, doc, pm, an, cdv, ct, osl, _, _, _, _, _, _, _, lk, hcd⟩
theorem fnI_6 (S : Says K) (c : Chk K) : IniAt K 6 := by
  obtain ⟨oc, od, kV, doc, pm, an, cdv, ct, osl, lk, hcd⟩ := fn_at (a := 0) (S.fn 13 _ rfl) (c.co _ (List.mem_of_getElem? (i := 13) rfl))
  exact ⟨oc, od, kV, doc, pm, an, cdv, ct, osl, _, _, _, _, _, _, _, lk, hcd⟩
theorem fnI_7 (S : Says K) (c : Chk K) : IniAt K 7 := by
  obtain ⟨oc, od, kV, doc, pm, an, cdv, ct, osl, lk, hcd⟩ := fn_at (a := 0) (S.fn 14 _ rfl) (c.co _ (List.mem_of_getElem? (i := 14) rfl))
  exact ⟨oc, od, kV, doc, pm, an, cdv, ct, osl, _, _, _, _, _, _, _, lk, hcd⟩
theorem fnI_8 (S : Says K) (c : Chk K) : IniAt K 8 := by
  obtain ⟨oc, od, kV, doc, pm, an, cdv, ct, osl, lk, hcd⟩ := fn_at (a := 0) (S.fn 15 _ rfl) (c.co _ (List.mem_of_getElem? (i := 15) rfl))
  exact ⟨oc, od, kV, doc, pm, an, cdv, ct, osl, _, _, _, _, _, _, _, lk, hcd⟩
theorem fnI_9 (S : Says K) (c : Chk K) : IniAt K 9 := by
  obtain ⟨oc, od, kV, doc, pm, an, cdv, ct, osl, lk, hcd⟩ := fn_at (a := 0) (S.fn 16 _ rfl) (c.co _ (List.mem_of_getElem? (i := 16) rfl))
  exact ⟨oc, od, kV, doc, pm, an, cdv, ct, osl, _, _, _, _, _, _, _, lk, hcd⟩
theorem fnI_10 (S : Says K) (c : Chk K) : IniAt K 10 := by
  obtain ⟨oc, od, kV, doc, pm, an, cdv, ct, osl, lk, hcd⟩ := fn_at (a := 0) (S.fn 17 _ rfl) (c.co _ (List.mem_of_getElem? (i := 17) rfl))
  exact ⟨oc, od, kV, doc, pm, an, cdv, ct, osl, _, _, _, _, _, _, _, lk, hcd⟩
theorem fnI_11 (S : Says K) (c : Chk K) : IniAt K 11 := by
  obtain ⟨oc, od, kV, doc, pm, an, cdv, ct, osl, lk, hcd⟩ := fn_at (a := 0) (S.fn 18 _ rfl) (c.co _ (List.mem_of_getElem? (i := 18) rfl))
  exact ⟨oc, od, kV, doc, pm, an, cdv, ct, osl, _, _, _, _, _, _, _, lk, hcd⟩
theorem fnI_12 (S : Says K) (c : Chk K) : IniAt K 12 := by
  obtain ⟨oc, od, kV, doc, pm, an, cdv, ct, osl, lk, hcd⟩ := fn_at (a := 0) (S.fn 19 _ rfl) (c.co _ (List.mem_of_getElem? (i := 19) rfl))
  exact ⟨oc, od, kV, doc, pm, an, cdv, ct, osl, _, _, _, _, _, _, _, lk, hcd⟩
theorem fnI_13 (S : Says K) (c : Chk K) : IniAt K 13 := by
  obtain ⟨oc, od, kV, doc, pm, an, cdv, ct, osl, lk, hcd⟩ := fn_at (a := 0) (S.fn 20 _ rfl) (c.co _ (List.mem_of_getElem? (i := 20) rfl))
  exact ⟨oc, od, kV, doc, pm, an, cdv, ct, osl, _, _, _, _, _, _, _, lk, hcd⟩
theorem fnI_14 (S : Says K) (c : Chk K) : IniAt K 14 := by
  obtain ⟨oc, od, kV, doc, pm, an, cdv, ct, osl, lk, hcd⟩ := fn_at (a := 0) (S.fn 21 _ rfl) (c.co _ (List.mem_of_getElem? (i := 21) rfl))
  exact ⟨oc, od, kV, doc, pm, an, cdv, ct, osl, _, _, _, _, _, _, _, lk, hcd⟩
theorem fnI_15 (S : Says K) (c : Chk K) : IniAt K 15 := by
  obtain ⟨oc, od, kV, doc, pm, an, cdv, ct, osl, lk, hcd⟩ := fn_at (a := 0) (S.fn 22 _ rfl) (c.co _ (List.mem_of_getElem? (i := 22) rfl))
  exact ⟨oc, od, kV, doc, pm, an, cdv, ct, osl, _, _, _, _, _, _, _, lk, hcd⟩
theorem fnI_16 (S : Says K) (c : Chk K) : IniAt K 16 := by
  obtain ⟨oc, od, kV, doc, pm, an, cdv, ct, osl, lk, hcd⟩ := fn_at (a := 0) (S.fn 23 _ rfl) (c.co _ (List.mem_of_getElem? (i := 23) rfl))
  exact ⟨oc, od, kV, doc, pm, an, cdv, ct, osl, _, _, _, _, _, _, _, lk, hcd⟩
theorem fnI_17 (S : Says K) (c : Chk K) : IniAt K 17 := by
  obtain ⟨oc, od, kV, doc, pm, an, cdv, ct, osl, lk, hcd⟩ := fn_at (a := 0) (S.fn 24 _ rfl) (c.co _ (List.mem_of_getElem? (i := 24) rfl))
  exact ⟨oc, od, kV, doc, pm, an, cdv, ct, osl, _, _, _, _, _, _, _, lk, hcd⟩
theorem fnI_18 (S : Says K) (c : Chk K) : IniAt K 18 := by
  obtain ⟨oc, od, kV, doc, pm, an, cdv, ct, osl, lk, hcd⟩ := fn_at (a := 0) (S.fn 25 _ rfl) (c.co _ (List.mem_of_getElem? (i := 25) rfl))
  exact ⟨oc, od, kV, doc, pm, an, cdv, ct, osl, _, _, _, _, _, _, _, lk, hcd⟩
theorem fnI_19 (S : Says K) (c : Chk K) : IniAt K 19 := by
  obtain ⟨oc, od, kV, doc, pm, an, cdv, ct, osl, lk, hcd⟩ := fn_at (a := 0) (S.fn 26 _ rfl) (c.co _ (List.mem_of_getElem? (i := 26) rfl))
  exact ⟨oc, od, kV, doc, pm, an, cdv, ct, osl, _, _, _, _, _, _, _, lk, hcd⟩
theorem fnI_20 (S : Says K) (c : Chk K) : IniAt K 20 := by
  obtain ⟨oc, od, kV, doc, pm, an, cdv, ct, osl, lk, hcd⟩ := fn_at (a := 0) (S.fn 27 _ rfl) (c.co _ (List.mem_of_getElem? (i := 27) rfl))
  exact ⟨oc, od, kV, doc, pm, an, cdv, ct, osl, _, _, _, _, _, _, _, lk, hcd⟩
theorem fnI_21 (S : Says K) (c : Chk K) : IniAt K 21 := by
  obtain ⟨oc, od, kV, doc, pm, an, cdv, ct, osl, lk, hcd⟩ := fn_at (a := 0) (S.fn 28 _ rfl) (c.co _ (List.mem_of_getElem? (i := 28) rfl))
  exact ⟨oc, od, kV, doc, pm, an, cdv, ct, osl, _, _, _, _, _, _, _, lk, hcd⟩
theorem fnI_22 (S : Says K) (c : Chk K) : IniAt K 22 := by
  obtain ⟨oc, od, kV, doc, pm, an, cdv, ct, osl, lk, hcd⟩ := fn_at (a := 0) (S.fn 29 _ rfl) (c.co _ (List.mem_of_getElem? (i := 29) rfl))
  exact ⟨oc, od, kV, doc, pm, an, cdv, ct, osl, _, _, _, _, _, _, _, lk, hcd⟩
theorem fnI_23 (S : Says K) (c : Chk K) : IniAt K 23 := by
  obtain ⟨oc, od, kV, doc, pm, an, cdv, ct, osl, lk, hcd⟩ := fn_at (a := 0) (S.fn 30 _ rfl) (c.co _ (List.mem_of_getElem? (i := 30) rfl))
  exact ⟨oc, od, kV, doc, pm, an, cdv, ct, osl, _, _, _, _, _, _, _, lk, hcd⟩
theorem fnI_24 (S : Says K) (c : Chk K) : IniAt K 24 := by
  obtain ⟨oc, od, kV, doc, pm, an, cdv, ct, osl, lk, hcd⟩ := fn_at (a := 0) (S.fn 31 _ rfl) (c.co _ (List.mem_of_getElem? (i := 31) rfl))
  exact ⟨oc, od, kV, doc, pm, an, cdv, ct, osl, _, _, _, _, _, _, _, lk, hcd⟩
theorem fnI_25 (S : Says K) (c : Chk K) : IniAt K 25 := by
  obtain ⟨oc, od, kV, doc, pm, an, cdv, ct, osl, lk, hcd⟩ := fn_at (a := 0) (S.fn 32 _ rfl) (c.co _ (List.mem_of_getElem? (i := 32) rfl))
  exact ⟨oc, od, kV, doc, pm, an, cdv, ct, osl, _, _, _, _, _, _, _, lk, hcd⟩
theorem fnI_26 (S : Says K) (c : Chk K) : IniAt K 26 := by
  obtain ⟨oc, od, kV, doc, pm, an, cdv, ct, osl, lk, hcd⟩ := fn_at (a := 0) (S.fn 33 _ rfl) (c.co _ (List.mem_of_getElem? (i := 33) rfl))
  exact ⟨oc, od, kV, doc, pm, an, cdv, ct, osl, _, _, _, _, _, _, _, lk, hcd⟩
theorem fnI_27 (S : Says K) (c : Chk K) : IniAt K 27 := by
  obtain ⟨oc, od, kV, doc, pm, an, cdv, ct, osl, lk, hcd⟩ := fn_at (a := 0) (S.fn 34 _ rfl) (c.co _ (List.mem_of_getElem? (i := 34) rfl))
  exact ⟨oc, od, kV, doc, pm, an, cdv, ct, osl, _, _, _, _, _, _, _, lk, hcd⟩
theorem fnI_28 (S : Says K) (c : Chk K) : IniAt K 28 := by
  obtain ⟨oc, od, kV, doc, pm, an, cdv, ct, osl, lk, hcd⟩ := fn_at (a := 0) (S.fn 35 _ rfl) (c.co _ (List.mem_of_getElem? (i := 35) rfl))
  exact ⟨oc, od, kV, doc, pm, an, cdv, ct, osl, _, _, _, _, _, _, _, lk, hcd⟩
theorem fnI_29 (S : Says K) (c : Chk K) : IniAt K 29 := by
  obtain ⟨oc, od, kV, doc, pm, an, cdv, ct, osl, lk, hcd⟩ := fn_at (a := 0) (S.fn 36 _ rfl) (c.co _ (List.mem_of_getElem? (i := 36) rfl))
  exact ⟨oc, od, kV, doc, pm, an, cdv, ct, osl, _, _, _, _, _, _, _, lk, hcd⟩
theorem fnI_30 (S : Says K) (c : Chk K) : IniAt K 30 := by
  obtain ⟨oc, od, kV, doc, pm, an, cdv, ct, osl, lk, hcd⟩ := fn_at (a := 0) (S.fn 37 _ rfl) (c.co _ (List.mem_of_getElem? (i := 37) rfl))
  exact ⟨oc, od, kV, doc, pm, an, cdv, ct, osl, _, _, _, _, _, _, _, lk, hcd⟩
theorem fnI_31 (S : Says K) (c : Chk K) : IniAt K 31 := by
  obtain ⟨oc, od, kV, doc, pm, an, cdv, ct, osl, lk, hcd⟩ := fn_at (a := 0) (S.fn 38 _ rfl) (c.co _ (List.mem_of_getElem? (i := 38) rfl))
  exact ⟨oc, od, kV, doc, pm, an, cdv, ct, osl, _, _, _, _, _, _, _, lk, hcd⟩
theorem fnI_32 (S : Says K) (c : Chk K) : IniAt K 32 := by
  obtain ⟨oc, od, kV, doc, pm, an, cdv, ct, osl, lk, hcd⟩ := fn_at (a := 0) (S.fn 39 _ rfl) (c.co _ (List.mem_of_getElem? (i := 39) rfl))
  exact ⟨oc, od, kV, doc, pm, an, cdv, ct, osl, _, _, _, _, _, _, _, lk, hcd⟩
theorem fnI_33 (S : Says K) (c : Chk K) : IniAt K 33 := by
  obtain ⟨oc, od, kV, doc, pm, an, cdv, ct, osl, lk, hcd⟩ := fn_at (a := 0) (S.fn 40 _ rfl) (c.co _ (List.mem_of_getElem? (i := 40) rfl))
  exact ⟨oc, od, kV, doc, pm, an, cdv, ct, osl, _, _, _, _, _, _, _, lk, hcd⟩
theorem fnI_34 (S : Says K) (c : Chk K) : IniAt K 34 := by
  obtain ⟨oc, od, kV, doc, pm, an, cdv, ct, osl, lk, hcd⟩ := fn_at (a := 0) (S.fn 41 _ rfl) (c.co _ (List.mem_of_getElem? (i := 41) rfl))
  exact ⟨oc, od, kV, doc, pm, an, cdv, ct, osl, _, _, _, _, _, _, _, lk, hcd⟩
theorem fnI_35 (S : Says K) (c : Chk K) : IniAt K 35 := by
  obtain ⟨oc, od, kV, doc, pm, an, cdv, ct, osl, lk, hcd⟩ := fn_at (a := 0) (S.fn 42 _ rfl) (c.co _ (List.mem_of_getElem? (i := 42) rfl))
  exact ⟨oc, od, kV, doc, pm, an, cdv, ct, osl, _, _, _, _, _, _, _, lk, hcd⟩
theorem fnI_36 (S : Says K) (c : Chk K) : IniAt K 36 := by
  obtain ⟨oc, od, kV, doc, pm, an, cdv, ct, osl, lk, hcd⟩ := fn_at (a := 0) (S.fn 43 _ rfl) (c.co _ (List.mem_of_getElem? (i := 43) rfl))
  exact ⟨oc, od, kV, doc, pm, an, cdv, ct, osl, _, _, _, _, _, _, _, lk, hcd⟩
theorem fnI_37 (S : Says K) (c : Chk K) : IniAt K 37 := by
  obtain ⟨oc, od, kV, doc, pm, an, cdv, ct, osl, lk, hcd⟩ := fn_at (a := 0) (S.fn 44 _ rfl) (c.co _ (List.mem_of_getElem? (i := 44) rfl))
  exact ⟨oc, od, kV, doc, pm, an, cdv, ct, osl, _, _, _, _, _, _, _, lk, hcd⟩
theorem fnI_38 (S : Says K) (c : Chk K) : IniAt K 38 := by
  obtain ⟨oc, od, kV, doc, pm, an, cdv, ct, osl, lk, hcd⟩ := fn_at (a := 0) (S.fn 45 _ rfl) (c.co _ (List.mem_of_getElem? (i := 45) rfl))
  exact ⟨oc, od, kV, doc, pm, an, cdv, ct, osl, _, _, _, _, _, _, _, lk, hcd⟩
theorem fnI_39 (S : Says K) (c : Chk K) : IniAt K 39 := by
  obtain ⟨oc, od, kV, doc, pm, an, cdv, ct, osl, lk, hcd⟩ := fn_at (a := 0) (S.fn 46 _ rfl) (c.co _ (List.mem_of_getElem? (i := 46) rfl))
  exact ⟨oc, od, kV, doc, pm, an, cdv, ct, osl, _, _, _, _, _, _, _, lk, hcd⟩
theorem fnI_40 (S : Says K) (c : Chk K) : IniAt K 40 := by
  obtain ⟨oc, od, kV, doc, pm, an, cdv, ct, osl, lk, hcd⟩ := fn_at (a := 0) (S.fn 47 _ rfl) (c.co _ (List.mem_of_getElem? (i := 47) rfl))
  exact ⟨oc, od, kV, doc, pm, an, cdv, ct, osl, _, _, _, _, _, _, _, lk, hcd⟩
theorem fnI_41 (S : Says K) (c : Chk K) : IniAt K 41 := by
  obtain ⟨oc, od, kV, doc, pm, an, cdv, ct, osl, lk, hcd⟩ := fn_at (a := 0) (S.fn 48 _ rfl) (c.co _ (List.mem_of_getElem? (i := 48) rfl))
  exact ⟨oc, od, kV, doc, pm, an, cdv, ct, osl, _, _, _, _, _, _, _, lk, hcd⟩
theorem fnI_42 (S : Says K) (c : Chk K) : IniAt K 42 := by
  obtain ⟨oc, od, kV, doc, pm, an, cdv, ct, osl, lk, hcd⟩ := fn_at (a := 0) (S.fn 49 _ rfl) (c.co _ (List.mem_of_getElem? (i := 49) rfl))
  exact ⟨oc, od, kV, doc, pm, an, cdv, ct, osl, _, _, _, _, _, _, _, lk, hcd⟩
theorem fnI_43 (S : Says K) (c : Chk K) : IniAt K 43 := by
  obtain ⟨oc, od, kV, doc, pm, an, cdv, ct, osl, lk, hcd⟩ := fn_at (a := 0) (S.fn 50 _ rfl) (c.co _ (List.mem_of_getElem? (i := 50) rfl))
  exact ⟨oc, od, kV, doc, pm, an, cdv, ct, osl, _, _, _, _, _, _, _, lk, hcd⟩
theorem fnI_44 (S : Says K) (c : Chk K) : IniAt K 44 := by
  obtain ⟨oc, od, kV, doc, pm, an, cdv, ct, osl, lk, hcd⟩ := fn_at (a := 0) (S.fn 51 _ rfl) (c.co _ (List.mem_of_getElem? (i := 51) rfl))
  exact ⟨oc, od, kV, doc, pm, an, cdv, ct, osl, _, _, _, _, _, _, _, lk, hcd⟩
theorem fnI_45 (S : Says K) (c : Chk K) : IniAt K 45 := by
  obtain ⟨oc, od, kV, doc, pm, an, cdv, ct, osl, lk, hcd⟩ := fn_at (a := 0) (S.fn 52 _ rfl) (c.co _ (List.mem_of_getElem? (i := 52) rfl))
  exact ⟨oc, od, kV, doc, pm, an, cdv, ct, osl, _, _, _, _, _, _, _, lk, hcd⟩
theorem fnI_46 (S : Says K) (c : Chk K) : IniAt K 46 := by
  obtain ⟨oc, od, kV, doc, pm, an, cdv, ct, osl, lk, hcd⟩ := fn_at (a := 0) (S.fn 53 _ rfl) (c.co _ (List.mem_of_getElem? (i := 53) rfl))
  exact ⟨oc, od, kV, doc, pm, an, cdv, ct, osl, _, _, _, _, _, _, _, lk, hcd⟩
theorem fnI_47 (S : Says K) (c : Chk K) : IniAt K 47 := by
  obtain ⟨oc, od, kV, doc, pm, an, cdv, ct, osl, lk, hcd⟩ := fn_at (a := 0) (S.fn 54 _ rfl) (c.co _ (List.mem_of_getElem? (i := 54) rfl))
  exact ⟨oc, od, kV, doc, pm, an, cdv, ct, osl, _, _, _, _, _, _, _, lk, hcd⟩
theorem fnI_48 (S : Says K) (c : Chk K) : IniAt K 48 := by
  obtain ⟨oc, od, kV, doc, pm, an, cdv, ct, osl, lk, hcd⟩ := fn_at (a := 0) (S.fn 55 _ rfl) (c.co _ (List.mem_of_getElem? (i := 55) rfl))
  exact ⟨oc, od, kV, doc, pm, an, cdv, ct, osl, _, _, _, _, _, _, _, lk, hcd⟩
theorem fnI_49 (S : Says K) (c : Chk K) : IniAt K 49 := by
  obtain ⟨oc, od, kV, doc, pm, an, cdv, ct, osl, lk, hcd⟩ := fn_at (a := 0) (S.fn 56 _ rfl) (c.co _ (List.mem_of_getElem? (i := 56) rfl))
  exact ⟨oc, od, kV, doc, pm, an, cdv, ct, osl, _, _, _, _, _, _, _, lk, hcd⟩
theorem fnI_50 (S : Says K) (c : Chk K) : IniAt K 50 := by
  obtain ⟨oc, od, kV, doc, pm, an, cdv, ct, osl, lk, hcd⟩ := fn_at (a := 0) (S.fn 57 _ rfl) (c.co _ (List.mem_of_getElem? (i := 57) rfl))
  exact ⟨oc, od, kV, doc, pm, an, cdv, ct, osl, _, _, _, _, _, _, _, lk, hcd⟩
theorem fnI_51 (S : Says K) (c : Chk K) : IniAt K 51 := by
  obtain ⟨oc, od, kV, doc, pm, an, cdv, ct, osl, lk, hcd⟩ := fn_at (a := 0) (S.fn 58 _ rfl) (c.co _ (List.mem_of_getElem? (i := 58) rfl))
  exact ⟨oc, od, kV, doc, pm, an, cdv, ct, osl, _, _, _, _, _, _, _, lk, hcd⟩
theorem fnI_52 (S : Says K) (c : Chk K) : IniAt K 52 := by
  obtain ⟨oc, od, kV, doc, pm, an, cdv, ct, osl, lk, hcd⟩ := fn_at (a := 0) (S.fn 59 _ rfl) (c.co _ (List.mem_of_getElem? (i := 59) rfl))
  exact ⟨oc, od, kV, doc, pm, an, cdv, ct, osl, _, _, _, _, _, _, _, lk, hcd⟩
theorem fnI_53 (S : Says K) (c : Chk K) : IniAt K 53 := by
  obtain ⟨oc, od, kV, doc, pm, an, cdv, ct, osl, lk, hcd⟩ := fn_at (a := 0) (S.fn 60 _ rfl) (c.co _ (List.mem_of_getElem? (i := 60) rfl))
  exact ⟨oc, od, kV, doc, pm, an, cdv, ct, osl, _, _, _, _, _, _, _, lk, hcd⟩
theorem fnI_54 (S : Says K) (c : Chk K) : IniAt K 54 := by
  obtain ⟨oc, od, kV, doc, pm, an, cdv, ct, osl, lk, hcd⟩ := fn_at (a := 0) (S.fn 61 _ rfl) (c.co _ (List.mem_of_getElem? (i := 61) rfl))
  exact ⟨oc, od, kV, doc, pm, an, cdv, ct, osl, _, _, _, _, _, _, _, lk, hcd⟩
theorem fnI_55 (S : Says K) (c : Chk K) : IniAt K 55 := by
  obtain ⟨oc, od, kV, doc, pm, an, cdv, ct, osl, lk, hcd⟩ := fn_at (a := 0) (S.fn 62 _ rfl) (c.co _ (List.mem_of_getElem? (i := 62) rfl))
  exact ⟨oc, od, kV, doc, pm, an, cdv, ct, osl, _, _, _, _, _, _, _, lk, hcd⟩
theorem fnI_all (S : Says K) (c : Chk K) : ∀ i, i < 56 → IniAt K i := by
  intro i hi
  match i, hi with
  | 0, _ => exact fnI_0 S c
  | 1, _ => exact fnI_1 S c
  | 2, _ => exact fnI_2 S c
  | 3, _ => exact fnI_3 S c
  | 4, _ => exact fnI_4 S c
  | 5, _ => exact fnI_5 S c
  | 6, _ => exact fnI_6 S c
  | 7, _ => exact fnI_7 S c
  | 8, _ => exact fnI_8 S c
  | 9, _ => exact fnI_9 S c
  | 10, _ => exact fnI_10 S c
  | 11, _ => exact fnI_11 S c
  | 12, _ => exact fnI_12 S c
  | 13, _ => exact fnI_13 S c
  | 14, _ => exact fnI_14 S c
  | 15, _ => exact fnI_15 S c
  | 16, _ => exact fnI_16 S c
  | 17, _ => exact fnI_17 S c
  | 18, _ => exact fnI_18 S c
  | 19, _ => exact fnI_19 S c
  | 20, _ => exact fnI_20 S c
  | 21, _ => exact fnI_21 S c
  | 22, _ => exact fnI_22 S c
  | 23, _ => exact fnI_23 S c
  | 24, _ => exact fnI_24 S c
  | 25, _ => exact fnI_25 S c
  | 26, _ => exact fnI_26 S c
  | 27, _ => exact fnI_27 S c
  | 28, _ => exact fnI_28 S c
  | 29, _ => exact fnI_29 S c
  | 30, _ => exact fnI_30 S c
  | 31, _ => exact fnI_31 S c
  | 32, _ => exact fnI_32 S c
  | 33, _ => exact fnI_33 S c
  | 34, _ => exact fnI_34 S c
  | 35, _ => exact fnI_35 S c
  | 36, _ => exact fnI_36 S c
  | 37, _ => exact fnI_37 S c
  | 38, _ => exact fnI_38 S c
  | 39, _ => exact fnI_39 S c
  | 40, _ => exact fnI_40 S c
  | 41, _ => exact fnI_41 S c
  | 42, _ => exact fnI_42 S c
  | 43, _ => exact fnI_43 S c
  | 44, _ => exact fnI_44 S c
  | 45, _ => exact fnI_45 S c
  | 46, _ => exact fnI_46 S c
  | 47, _ => exact fnI_47 S c
  | 48, _ => exact fnI_48 S c
  | 49, _ => exact fnI_49 S c
  | 50, _ => exact fnI_50 S c
  | 51, _ => exact fnI_51 S c
  | 52, _ => exact fnI_52 S c
  | 53, _ => exact fnI_53 S c
  | 54, _ => exact fnI_54 S c
  | 55, _ => exact fnI_55 S c
  | n + 56, h => exact absurd h (by omega)
theorem cr_of (S : Says K) (c : Chk K) (X : K.In h) (G : h.Ns mainGlobals mg) : CrC K mg (cl 59) (ini 59) := by
  obtain ⟨o1, o2⟩ := b2 (c.one 59 (by decide))
  obtain ⟨o2, o3⟩ := b2 o2
  have A := clsB_ok o2
  have E := excC_of A o3 (has_ve _).1 (has_ve _).2.1 c.hn c.ht
  obtain ⟨i1, n1, n2⟩ := c.cr
  obtain ⟨i1, i2⟩ := b2 i1
  obtain ⟨i2, i3⟩ := b2 i2
  obtain ⟨oc, od, kV, doc, pm, an, cdv, ct, osl, lk, hcd⟩ := fn_at (a := 0) (S.fn 63 _ rfl) (c.co _ (List.mem_of_getElem? (i := 63) rfl))
  exact ⟨PySem.W.mg_of X G (He.eqO_ok o1), oexC_of A E (He.eqO_ok i1) (b2 (b2 (b2 o3).2).2).2, He.eqO_ok i2, of_decide_eq_true i3, He.eqO_ok n1, He.eqO_ok n2, xfC_of E, oc, od, kV, doc, pm, an, cdv, ct, osl, _, _, _, _, _, _, _, _, _, _, _, _, lk, hcd⟩
theorem ltx_of (S : Says K) (c : Chk K) (X : K.In h) (G : h.Ns mainGlobals mg) : LTx K mg cl ini WA := by
  have one : ∀ i, i < 60 → mg (nm i) = some (.ref (cl i)) ∧ ClsAt K (cl i) bmK ∧ ExcC K (cl i) ∧ PySem.W.keepIn K (.ref (cl i)) = true := fun i hi => by
    obtain ⟨o1, o2⟩ := b2 (c.one i hi)
    obtain ⟨o2, o3⟩ := b2 o2
    have A := clsB_ok o2
    exact ⟨PySem.W.mg_of X G (He.eqO_ok o1), A, excC_of A o3 (has_ve _).1 (has_ve _).2.1 c.hn c.ht, (b2 (b2 (b2 o3).2).2).2⟩
  obtain ⟨w1, w2⟩ := b2 c.w
  obtain ⟨w2, w3⟩ := b2 w2
  have AW := clsB_ok w2
  have EW := excC_of AW w3 (has_ve _).2.2.2.1 (has_ve _).2.2.2.2.1 c.hn c.ht
  have fr : ∀ x, x ∈ frees → mg x = none := fun x hx => PySem.W.mg_none_of X G (He.eqO_ok (c.fr x hx))
  refine { T := ⟨fun i hi => ?_⟩, Y := ?_, C := cr_of S c X G, e0 := fun i h1 h2 => ⟨c.ex _ ?_, (one i (by omega)).2.2.2⟩, w0 := ⟨c.ex _ (by simp), (b2 (b2 (b2 w3).2).2).2⟩, wx := EW, wV := AW.kitV (has_ve WA).2.2.2.2.2, nR := fr _ (by decide), nA := fr _ (by decide), nE := fr _ (by decide), nI := fr _ (by decide), nB := fr _ (by decide), nV := fr _ (by decide), nInt := fr _ (by decide), nLen := fr _ (by decide), nList := fr _ (by decide) }
  · obtain ⟨g, A, E, kC⟩ := one i (by omega)
    obtain ⟨i1, n1⟩ := c.inb i hi
    obtain ⟨i1, i2⟩ := b2 i1
    obtain ⟨i2, i3⟩ := b2 i2
    exact ⟨g, oexC_of A E (He.eqO_ok i1) kC, He.eqO_ok i2, of_decide_eq_true i3, He.eqO_ok n1, xfC_of E, fnI_all S c i hi⟩
  · refine ⟨fun i hi => (one i hi).1, fun i hi => (one i hi).2.2.1, fun i j hi hj => ?_, PySem.W.mg_of X G (He.eqO_ok w1), fun i hi => ?_, fun i hi => (one i hi).2.1.kitV (has_ve WA).2.2.1⟩
    · rw [(one i hi).2.1.kit (one j hj).2.1, has_cls i j hi hj]
    · rw [(one i hi).2.1.kit AW, has_W]
  · have e : i = 56 ∨ i = 57 ∨ i = 58 := by omega
    rcases e with rfl | rfl | rfl <;> simp
theorem fun_at (S : Says K) (c : Chk K) (i : Nat) (x : Str) (a : Addr) (st : Stmt) (e : defsT[i]? = some (a, x, x, st)) (m : (x, a) ∈ lawDefs) (X : K.In h) (G : h.Ns mainGlobals mg) : mg x = some (.ref a) ∧ ∃ fd, Fun K x x st a fd := by
  obtain ⟨oc, od, kV, doc, pm, an, cdv, ct, osl, lk, hcd⟩ := fn_at (a := 0) (S.fn i _ e) (c.co _ (List.mem_of_getElem? e))
  obtain ⟨d1, d2⟩ := b2 (c.df _ m)
  exact ⟨PySem.W.mg_of X G (He.eqO_ok d1), _, ⟨⟨oc, od, kV, doc, pm, an, cdv, ct, osl, rfl, lk, hcd⟩, d2⟩⟩
end
theorem facts {P : Program} {w : World} {K : PySem.W.Frag} {h : Heap} {mg : Str → Option Value} {f : Addr} (X : K.In h) (G : h.Ns mainGlobals mg) (hfa : mg ("law" : Str) = some (.ref f)) (c : obE K = valK) :
    ∃ fd : FuncData, (∀ (s : Shared) (v : Value), BindsTo s fd ⟨[v], []⟩ [("script", v)]) ∧ ∀ base : Heap, K.In base → base.Ns mainGlobals mg → FnOk P w K mg base CX0 4 f fd ["script"] (spLaw K) := by
  have S := says_of c
  have C := chk_of S
  have L := ltx_of S C X G
  obtain ⟨gS, fdS, FS⟩ := fun_at S C 0 "_law_start" _ _ rfl (by decide) X G
  obtain ⟨gD, fdD, FD⟩ := fun_at S C 1 "_law_draw" _ _ rfl (by decide) X G
  obtain ⟨gK, fdK, FK⟩ := fun_at S C 2 "_law_pick" _ _ rfl (by decide) X G
  obtain ⟨gP, fdP, FP⟩ := fun_at S C 3 "_law_pairs" _ _ rfl (by decide) X G
  obtain ⟨gH, fdH, FH⟩ := fun_at S C 4 "_law_held" _ _ rfl (by decide) X G
  obtain ⟨gC, fdC, FC⟩ := fun_at S C 5 "_law_classes" _ _ rfl (by decide) X G
  obtain ⟨gL, fd, F⟩ := fun_at S C 6 "law" _ _ rfl (by decide) X G
  have e := hfa.symm.trans gL
  cases e
  obtain ⟨oc, od, kV, doc, pm, an, cdv, ct, osl, rfl, lk, hcd⟩ := F.ex
  exact ⟨_, fun s v => .of_eq rfl, fun base _ _ => ok_law L F FC gC FP gP FH gH FS gS FK gK FD gD⟩
end L2.EV

open PySem PySem.W PySem.Calls PyProof.Rows
set_option maxHeartbeats 0 in
theorem PySem.Challenge.cw_twoworlds_k92_errors_made_holds : PySem.Challenge.rw_twoworlds_k92_errors_made.Holds := by
  w_on; o_law
  refine HandSHeadRun.head_any (r := L2.EV.HdR.R) (q := L2.EV.HdR.qv) (H := L2.EV.hookK) (ob := L2.EV.obT) (M := 16000) (loose := L2.EV.HdR.names)
    (d := HandSHeadRun.topDef L2.EV.HdR.R.prog 69) (kwd := []) L2.EV.obT_eq
    (by kernel_rfl) (fun s => by kernel_rfl) L2.EV.HdR.run (by kernel_rfl) (by kernel_rfl) (by kernel_rfl) (by rfl)
    (by first | assumption | decide +kernel) (by decide +kernel) ⟨rfl, rfl, rfl, rfl, rfl, by decide +kernel⟩ ?hw ?hc
  case hw => w_witness2
  case hc =>
    refine L2.walk_ofE (l := PySem.Challenge.rw_twoworlds_k92_errors_made) (n := 63) (k := 4) (x := "script") (CX := L2.CX0)
      rfl (by decide) (by kernel_rfl) ⟨rfl, by decide, by decide⟩ ?F (fun _ _ _ _ z => z)
    intro w mg fa h Y G hmg0
    obtain ⟨K, KX, c⟩ := Y
    have hmg : mg ("law" : PySem.Str) = some (.ref fa) := by
      have e : (HandSHeadRun.topDef L2.EV.HdR.R.prog 69).name = ("law" : PySem.Str) := by kernel_rfl
      rw [← e]; exact hmg0
    obtain ⟨fd, hb, hF⟩ := L2.EV.facts (P := PySem.Challenge.rw_twoworlds_k92_errors_made.prog) (w := w) KX G hmg c
    exact ⟨K, fd, L2.EV.spLaw K, KX, hb, fun H a ns hl _ hS => ⟨a, ns, rfl, hS, by omega, fun _ => rfl⟩, hF⟩
