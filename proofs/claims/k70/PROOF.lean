import PyProof.Rows.All
import Wide.All
import OpenK.AllK
import Wide.FinOn
import KE.RegKCallOwn
import PyProof.InstNe
import HandS.ForMost
import HandS.OwnEq
import HandS.Evl
import HandS.IsInst
import HandS.FStr
import HandS.StrMore
import HandS.Defaults
import KE.KRevSl
import HandS.Strs
import HandS.Wide
import HandS.Style
import PySem.Challenge.RW_overtaken_k70_whole_desks_by_turns
import HandS.Zip
import HandS.ClsMeth
import HandS.Exc
import KE.KUnpackStar
import HandS.ExcValue
import HandS.Walk
import KE.GoesEnumKw
import KE.GoesMore
import HandS.TupAny
import HandS.Star
import HandS.MakeKwOnly
import HandS.MakeKw
import HandS.Flow
import HandS.More
import KE.GoesEnum
import HandS.Property
import HandS.Deep
import HandS.ReplaceList
import HandS.Replace
import HandS.ReplaceLit
import HandS.CallLocal
import PyProof.StrLawsIn
import HandS.Sort
import KE.KMulAny
import KE.KStateDown
import Lean
import HandS.Head0
import HandS.Head1
import HandS.Head2
import HandS.HeadEnd
import HandS.HeadHook1
import HandS.HeadHook2
import HandS.HeadHook3
import HandS.HeadHook4
import HandS.HeadNt
set_option Elab.async false
set_option linter.all false
set_option maxRecDepth 100000
set_option maxHeartbeats 0
namespace Ov
open PySem PySem.Spec PyProof.Rows L2
def topS (i : Nat) : Stmt := PySem.Challenge.pw_overtaken_k70_whole_desks_by_turns.main.body.getD i (.Pass ⟨0, 0, 0, 0⟩)
abbrev sDeal : Stmt := topS 122
abbrev sDraw : Stmt := topS 123
abbrev sPick : Stmt := topS 124
abbrev sTestsOf : Stmt := topS 126
abbrev sLawDeedsOf : Stmt := topS 127
abbrev sIsSequence : Stmt := topS 13
abbrev sIsKind : Stmt := topS 27
abbrev sIsTest : Stmt := topS 28
abbrev sIsDeed : Stmt := topS 29
abbrev sRuleInit : Stmt := inClass (topS 31) 0
abbrev sRuleEq : Stmt := inClass (topS 31) 2
abbrev sRuleStr : Stmt := inClass (topS 31) 3
abbrev sRuleText : Stmt := topS 132
abbrev sAreRaises : Stmt := topS 84
abbrev sAreRules : Stmt := topS 85
abbrev sPlanInit : Stmt := inClass (topS 87) 0
abbrev sIsInteger : Stmt := topS 14
abbrev sIsPlace : Stmt := topS 15
abbrev sPlanGetitem : Stmt := inClass (topS 87) 5
abbrev sSplitPart : Stmt := topS 30
abbrev sRuleRead : Stmt := inClass (topS 31) 1
abbrev sReadRule : Stmt := topS 86
abbrev sPlanRead : Stmt := inClass (topS 87) 1
abbrev sPlanEq : Stmt := inClass (topS 87) 8
abbrev sPlanLen : Stmt := inClass (topS 87) 4
abbrev sPlanAdd : Stmt := inClass (topS 87) 7
abbrev sPlanStr : Stmt := inClass (topS 87) 9
abbrev sText : Stmt := topS 133
abbrev sRelation : Stmt := topS 35
abbrev sIsWholeKind : Stmt := topS 40
abbrev sDeedsOf : Stmt := topS 39
abbrev sEffect : Stmt := topS 41
abbrev sHolds : Stmt := topS 36
abbrev sLetterRule : Stmt := topS 37
abbrev sAnswerRule : Stmt := topS 38
abbrev sReadPlace : Stmt := topS 17
abbrev sCourseShowing : Stmt := inClass (topS 94) 1
abbrev sCourseSend : Stmt := inClass (topS 94) 2
abbrev sCourseStandingTo : Stmt := inClass (topS 94) 3
abbrev sCourseCome : Stmt := inClass (topS 94) 4
abbrev sCourseHear : Stmt := inClass (topS 94) 5
abbrev sCourseLook : Stmt := inClass (topS 94) 6
abbrev sCourseIsBack : Stmt := inClass (topS 94) 8
abbrev sCourseJudge : Stmt := inClass (topS 94) 7
abbrev sLetterToCome : Stmt := topS 95
abbrev sCanAnswer : Stmt := topS 96
abbrev sGoOn : Stmt := topS 97
abbrev sCourseInit : Stmt := inClass (topS 94) 0
abbrev sPlayedInit : Stmt := inClass (topS 98) 0
abbrev sPlay : Stmt := topS 99
abbrev sIsName : Stmt := topS 16
abbrev sCheckName : Stmt := topS 101
abbrev sPostDo : Stmt := inClass (topS 102) 1
abbrev sPostSent : Stmt := inClass (topS 102) 2
abbrev sPostGiven : Stmt := inClass (topS 102) 3
abbrev sPostWeavingFor : Stmt := inClass (topS 102) 6
abbrev sPostInit : Stmt := inClass (topS 102) 0
abbrev sPostLen : Stmt := inClass (topS 102) 14
abbrev sPostUndo : Stmt := inClass (topS 102) 15
abbrev sPostSend : Stmt := inClass (topS 102) 4
abbrev sPostCome : Stmt := inClass (topS 102) 5
abbrev sPostPlayed : Stmt := inClass (topS 102) 7
abbrev sPostLook : Stmt := inClass (topS 102) 8
abbrev sPostHand : Stmt := inClass (topS 102) 9
abbrev sPostAnswer : Stmt := inClass (topS 102) 10
abbrev sPostHeard : Stmt := inClass (topS 102) 11
abbrev sIsOf : Stmt := topS 107
abbrev sHasForm : Stmt := topS 108
abbrev sWordsOf : Stmt := topS 109
abbrev sSayPlan : Stmt := topS 110
abbrev sSayPost : Stmt := topS 111
abbrev sSaySend : Stmt := topS 115
abbrev sSayCome : Stmt := topS 116
abbrev sSayShows : Stmt := topS 117
abbrev sSayUndo : Stmt := topS 118
abbrev sDeskSay : Stmt := inClass (topS 120) 1
abbrev sAnyRule : Stmt := topS 128
abbrev sMixed : Stmt := topS 125
abbrev sUsualRules : Stmt := topS 129
abbrev sRaised : Stmt := topS 130
abbrev sPlan : Stmt := topS 131
abbrev sDeskInit : Stmt := inClass (topS 120) 0
abbrev sCommand : Stmt := topS 134
abbrev sLaw : Stmt := topS 135
def holdsAll : List Str := ["above", "later", "level", "below"]
def holdsD : List (Str × List Str) := [("", holdsAll), ("above", ["above"]), ("level", ["later", "level"]), ("later", ["above", "later"])]
def formsD : List (Str × List Str) := [("plan", ["word .."]), ("post", ["days"]), ("goals", [""]), ("weaving", ["goal"]), ("raises", ["goal .."]), ("send", ["word", "word number"]), ("come", ["word number"]), ("shows", ["word number"]), ("undo", [""])]
/-- the tuple at an address of the known heap; what the table HOLDS tells -/
def tupAtB (K : PySem.W.Frag) (a : Addr) (vs : List V) : Bool := match K.lookup a with
  | some ⟨.type c, _, .seq its _, _⟩ => decide (c = "tuple") && (decide (its.size ≤ sizeLine) && He.relAll vs its.toList)
  | _ => false
def holdKeys : List Str := holdsD.map Prod.fst
def holdB (K : PySem.W.Frag) (x : Str) (l : List Str) : Bool := match PySem.W.nsIn K (He.ga K "HOLDS") x with
  | some (some (.ref q)) => tupAtB K q (l.map V.str)
  | _ => false
def holdsB (K : PySem.W.Frag) : Bool := holdsD.all fun p => holdB K p.1 p.2
/-- a property of a class: its object stands at ma, its getter behind it -/
def propB (K : PySem.W.Frag) (C : Addr) (m : Str) : Bool := (match PySem.W.findIn K (.ref C) m with
  | some (some (.ref p)) => decide (p = He.ma K C m)
  | _ => false) && (He.eqO (PySem.W.specialIn K (.ref (He.ma K C m)) "__get__") (some (some (.builtin "property.__get__"))) && (decide (PySem.W.takesIn K (.ref (He.ma K C m)) = some true) && (match PySem.W.recIn K (He.ma K C m) "property" with
  | some (.ref _ :: _) => true
  | _ => false)))
def emB (K : PySem.W.Frag) (a : Addr) : Bool := match K.lookup a with
  | some ⟨.type c, _, .seq its _, _⟩ => decide (c = "tuple") && decide (its = #[])
  | _ => false
def formKeys : List Str := formsD.map Prod.fst
def formB (K : PySem.W.Frag) (x : Str) (l : List Str) : Bool := match PySem.W.nsIn K (He.ga K "FORMS") x with
  | some (some (.ref q)) => tupAtB K q (l.map V.str)
  | _ => false
def formsB (K : PySem.W.Frag) : Bool := formsD.all fun p => formB K p.1 p.2
def actsD : List (Str × Str) := [("plan", "say_plan"), ("post", "say_post"), ("send", "say_send"), ("come", "say_come"), ("shows", "say_shows"), ("undo", "say_undo")]
def actB (K : PySem.W.Frag) (x y : Str) : Bool := match PySem.W.nsIn K (He.ga K "ACTIONS") x with
  | some (some (.ref q)) => decide (q = He.ga K y)
  | _ => false
def actionsB (K : PySem.W.Frag) : Bool := actsD.all fun p => actB K p.1 p.2
def dA (x : Str) (st : Stmt) : He5.DefA := ⟨fun K => He.ga K x, x, x, defArgs st, defBody st, defScope st, [], []⟩
def dM (c m q : Str) (st : Stmt) (dfl : List He.Dv) : He5.DefA := ⟨fun K => He.ma K (He.ga K c) m, m, q, defArgs st, defBody st, defScope st, dfl, []⟩
def dC (c m q : Str) (st : Stmt) : He5.DefA := ⟨fun K => He5.wf K (He.ga K c) "classmethod" m, m, q, defArgs st, defBody st, defScope st, [], []⟩
def dP (c m q : Str) (st : Stmt) : He5.DefA := ⟨fun K => He5.wf K (He.ga K c) "property" m, m, q, defArgs st, defBody st, defScope st, [], []⟩
def fn : List He5.DefA := [dA "_law_deal" sDeal, dA "_law_draw" sDraw, dA "_law_pick" sPick, dA "_law_mixed" sMixed, dA "_law_tests_of" sTestsOf, dA "_law_deeds_of" sLawDeedsOf, dA "_law_any_rule" sAnyRule, dA "_law_usual_rules" sUsualRules, dA "_law_raised" sRaised, dA "_law_plan" sPlan, dA "_law_rule_text" sRuleText, dA "_law_text" sText, dA "_law_command" sCommand, dA "law" sLaw, dA "is_sequence" sIsSequence, dA "is_kind" sIsKind, dA "is_test" sIsTest, dA "is_deed" sIsDeed, dA "split_part" sSplitPart, dA "are_raises" sAreRaises, dA "are_rules" sAreRules, dA "read_rule" sReadRule, dA "read_place" sReadPlace, dA "relation" sRelation, dA "holds" sHolds, dA "letter_rule" sLetterRule, dA "answer_rule" sAnswerRule, dA "deeds_of" sDeedsOf, dA "is_whole_kind" sIsWholeKind, dA "effect" sEffect, dA "letter_to_come" sLetterToCome, dA "can_answer" sCanAnswer, dA "go_on" sGoOn, dA "play" sPlay, dA "is_integer" sIsInteger, dA "is_place" sIsPlace, dA "is_name" sIsName, dA "check_name" sCheckName, dA "is_of" sIsOf, dA "has_form" sHasForm, dA "words_of" sWordsOf, dA "say_plan" sSayPlan, dA "say_post" sSayPost, dA "say_send" sSaySend, dA "say_come" sSayCome, dA "say_shows" sSayShows, dA "say_undo" sSayUndo, dM "Rule" "__init__" "Rule.__init__" sRuleInit [.adr (He.dflAt ("Rule", some "__init__") 0), .adr (He.dflAt ("Rule", some "__init__") 1)], dM "Plan" "__init__" "Plan.__init__" sPlanInit [.adr (He.dflAt ("Plan", some "__init__") 0), .adr (He.dflAt ("Plan", some "__init__") 1)], dM "Course" "__init__" "Course.__init__" sCourseInit [], dM "Played" "__init__" "Played.__init__" sPlayedInit [], dM "Course" "showing" "Course.showing" sCourseShowing [], dM "Course" "send" "Course.send" sCourseSend [], dM "Course" "standing_to" "Course.standing_to" sCourseStandingTo [], dM "Course" "come" "Course.come" sCourseCome [], dM "Course" "hear" "Course.hear" sCourseHear [], dM "Course" "look" "Course.look" sCourseLook [], dM "Course" "judge" "Course.judge" sCourseJudge [], dM "Course" "is_back" "Course.is_back" sCourseIsBack [], dM "Post" "__init__" "Post.__init__" sPostInit [.int 1], dM "Post" "send" "Post.send" sPostSend [.non], dM "Post" "do" "Post.do" sPostDo [], dM "Post" "weaving_for" "Post.weaving_for" sPostWeavingFor [], dM "Post" "played" "Post.played" sPostPlayed [], dM "Post" "look" "Post.look" sPostLook [], dM "Post" "come" "Post.come" sPostCome [], dM "Post" "__len__" "Post.__len__" sPostLen [], dM "Post" "undo" "Post.undo" sPostUndo [], dM "Plan" "__len__" "Plan.__len__" sPlanLen [], dM "Desk" "__init__" "Desk.__init__" sDeskInit [], dM "Desk" "say" "Desk.say" sDeskSay [], dC "Rule" "read" "Rule.read" sRuleRead, dC "Plan" "read" "Plan.read" sPlanRead, dP "Post" "sent" "Post.sent" sPostSent]
def fa : List He.Fa := [.glo "_law_deal", .glo "_law_draw", .glo "_law_pick", .glo "_law_mixed", .glo "_law_tests_of", .glo "_law_deeds_of", .glo "_law_any_rule", .glo "_law_usual_rules", .glo "_law_raised", .glo "_law_plan", .glo "_law_rule_text", .glo "_law_text", .glo "_law_command", .glo "law", .glo "is_sequence", .glo "is_kind", .glo "is_test", .glo "is_deed", .glo "split_part", .glo "are_raises", .glo "are_rules", .glo "read_rule", .glo "read_place", .glo "relation", .glo "holds", .glo "letter_rule", .glo "answer_rule", .glo "deeds_of", .glo "is_whole_kind", .glo "effect", .glo "letter_to_come", .glo "can_answer", .glo "go_on", .glo "play", .glo "is_integer", .glo "is_place", .glo "is_name", .glo "check_name", .glo "is_of", .glo "has_form", .glo "words_of", .glo "say_plan", .glo "say_post", .glo "say_send", .glo "say_come", .glo "say_shows", .glo "say_undo", .glo "Rule", .glo "Plan", .glo "Course", .glo "Played", .glo "LETTERS", .glo "LETTER_TESTS", .glo "LETTER_DEEDS", .glo "ANSWER_TESTS", .glo "ANSWER_DEEDS", .glo "HOLDS", .glo "DEEDS", .glo "Post", .glo "Desk", .glo "FORMS", .glo "ACTIONS", .glo "GOALS", .free "int", .free "abs", .free "len", .free "range", .free "max", .free "min", .free "list", .free "tuple", .free "isinstance", .free "str", .free "all", .free "sorted", .free "set", .free "bool", .free "enumerate", .free "any", .free "zip", .str "ANSWER" "answer", .str "NOT" "not ", .str "OTHER" "other", .str "COME" "come ", .str "HEARD" "heard ", .str "ANSWERING" "answer", .str "MORE" " ..", .int "NUMBERS" 10000, .cls "Rule", .cls "Plan", .cls "Course", .cls "Played", .cls "Post", .cls "Desk", .noat "Rule" "kind", .noat "Rule" "tests", .noat "Rule" "deeds", .noat "Plan" "raises", .noat "Plan" "rules", .noat "Course" "plan", .noat "Course" "letters", .noat "Course" "newest", .noat "Course" "whole", .noat "Course" "own", .noat "Course" "came", .noat "Course" "shown", .noat "Course" "called_off", .noat "Course" "answers", .noat "Course" "counted", .noat "Course" "shows", .noat "Course" "rules", .noat "Course" "goals", .noat "Played" "letters", .noat "Played" "shows", .noat "Played" "whole", .noat "Played" "own", .noat "Played" "answers", .noat "Played" "counted", .noat "Played" "rules", .noat "Played" "goals", .noat "Post" "plan", .noat "Post" "days", .noat "Post" "deeds", .noat "Desk" "plan", .noat "Desk" "post", .meth "Course" "showing", .meth "Course" "send", .meth "Course" "standing_to", .meth "Course" "come", .meth "Course" "hear", .meth "Course" "look", .meth "Course" "judge", .meth "Course" "is_back", .meth "Post" "send", .meth "Post" "do", .meth "Post" "weaving_for", .meth "Post" "played", .meth "Post" "look", .meth "Post" "come", .meth "Post" "__len__", .meth "Post" "undo", .meth "Desk" "say", .meth "Plan" "__len__", .mkr "Rule", .mkr "Plan", .mkr "Course", .mkr "Played", .mkr "Post", .mkr "Desk"]
def exL (K : PySem.W.Frag) : List Bool := [He.tupB K "LETTERS" [.str "ask", .str "day", .str "off", .str "stop"], He.tupB K "LETTER_TESTS" [.str "whole", .str "own", .str "above whole", .str "above own", .str "level whole", .str "level own", .str "later whole", .str "later own"], He.tupB K "LETTER_DEEDS" [.str "take", .str "wipe"], He.tupB K "ANSWER_TESTS" [.str "level"], He.tupB K "ANSWER_DEEDS" [.str "count", .str "drop"], He.tupB K "DEEDS" [.str "ask", .str "day", .str "stop", .str "off", .str "other day", .str "other off"], decide (PySem.W.mroIn K (He.ga K "Rule") (.type "object") = some true), He.eqO (PySem.W.findIn K (.ref (He.ga K "Rule")) "__class__") (some (some (.builtin "object.__class__"))), He.eqO (PySem.W.specialIn K (.builtin "object.__class__") "__get__") (some (some (.builtin "getset_descriptor.__get__"))), decide (PySem.W.takesIn K (.builtin "object.__class__") = some true), PySem.W.readsIn K (He.ga K "Rule") (.type "type"), He.eqO (PySem.W.specialIn K (.ref (He.ga K "Rule")) "__getattribute__") (some (some (.builtin "type.__getattribute__"))), He5.wrapB K (He.ga K "Rule") "classmethod" "classmethod.__get__" "read", PySem.W.fnIn K (He5.wf K (He.ga K "Rule") "classmethod" "read"), PySem.W.readsIn K (He.ga K "Plan") (.type "type"), He.eqO (PySem.W.specialIn K (.ref (He.ga K "Plan")) "__getattribute__") (some (some (.builtin "type.__getattribute__"))), He5.wrapB K (He.ga K "Plan") "classmethod" "classmethod.__get__" "read", PySem.W.fnIn K (He5.wf K (He.ga K "Plan") "classmethod" "read"), holdsB K, propB K (He.ga K "Post") "sent", emB K (He.dflAt ("Plan", some "__init__") 0 K), emB K (He.dflAt ("Plan", some "__init__") 1 K), formsB K, actionsB K]
def ex (K : PySem.W.Frag) : Bool := (exL K).all id
theorem ex_at {K : PySem.W.Frag} (h : ex K = true) (i : Nat) {b : Bool} (e : (exL K)[i]? = some b) : b = true := List.all_eq_true.mp h b (List.mem_of_getElem? e)
def names : List Str := (["_wall", "__name__", "LetterError", "InvalidRule", "InvalidPlan", "InvalidText", "InvalidWeaving", "InvalidGoal", "InvalidCommand", "Refused", "NoRule", "GOALS", "is_sequence", "is_integer", "is_place", "is_name", "read_place", "check_goal", "LETTERS", "ANSWER", "LETTER_TESTS", "LETTER_DEEDS", "ANSWER_TESTS", "ANSWER_DEEDS", "NOT"] : List Str) ++ (["is_kind", "is_test", "is_deed", "split_part", "Rule", "RELATIONS", "HOLDS", "relation", "holds", "letter_rule", "answer_rule", "deeds_of", "is_whole_kind", "effect", "effects", "counts", "FIRST", "first_kind", "followers", "starters", "letters_of", "line_of", "letters_in_new_stretch", "letters_in_stretch", "has_newest"] : List Str) ++ (["further_letters", "first_lines", "Row", "events_of", "NEWEST", "LEVEL", "ELDER", "shown_letter", "asks", "moved", "taken_in", "given_to", "is_level", "Standings", "explore", "way_to", "events_to", "answer_events", "weaving", "goals_among", "goals", "check_wanted", "sets_of_kinds", "has_part", "least_raises"] : List Str) ++ (["are_raises", "are_rules", "read_rule", "Plan", "DEEDS", "OTHER", "COME", "ANSWERING", "HEARD", "Course", "letter_to_come", "can_answer", "go_on", "Played", "play", "check_name", "Post", "FORMS", "MORE", "NUMBERS", "is_of", "has_form", "words_of", "say_plan", "say_post"] : List Str) ++ (["say_goals", "say_weaving", "say_raises", "say_send", "say_come", "say_shows", "say_undo", "ACTIONS", "Desk", "_law_deal", "_law_draw", "_law_pick", "_law_mixed", "_law_tests_of", "_law_deeds_of", "_law_any_rule", "_law_usual_rules", "_law_raised", "_law_plan", "_law_rule_text", "_law_text", "_law_command"] : List Str)
abbrev R : PySem.W.OpenRow := PySem.W.OpenLaw.row PySem.Challenge.rw_overtaken_k70_whole_desks_by_turns
def addNew : List Addr → List Addr → Nat → List Addr × Nat
  | [], acc, v => (acc, v)
  | a :: r, acc, v => match Nat.beq (Nat.land (Nat.shiftRight v a) 1) 1 with
    | true => addNew r acc v
    | false => HandSHeadRun.frNat (Nat.lor v (Nat.shiftLeft 1 a)) fun v' => addNew r (a :: acc) v'
def reach (g : Addr → Option Obj) : Nat → List Addr → Nat → List Addr
  | 0, fr, _ => fr
  | n + 1, fr, v => match addNew (fr.flatMap fun a => match g a with | some o => He.refsD o | none => []) [] v with
    | (new, v') => fr ++ reach g n new v'
def part (n : Nat) (g : Addr → Option Obj) : PySem.W.Frag := He.frG g (reach g n [mainGlobals] (Nat.shiftLeft 1 mainGlobals) ++ [cStatics])
def seen (n : Nat) (g : Addr → Option Obj) : He.AlD × (Bool × List (Option (List (Option (Str × Int))))) := (He5.obsA fa fn (part n g), (ex (part n g), [He.dicW (part n g) (He.ga (part n g) "HOLDS"), He.dicW (part n g) (He.ga (part n g) "FORMS"), He.dicW (part n g) (He.ga (part n g) "ACTIONS")]))
structure Says (w : World) (K : PySem.W.Frag) : Prop where
  d : He5.SaysA fa fn K
  more : ex K = true
  tab : [He.dicW K (He.ga K "HOLDS"), He.dicW K (He.ga K "FORMS"), He.dicW K (He.ga K "ACTIONS")] = [some (He.keysIn w.params holdKeys), some (He.keysIn w.params formKeys), some (He.keysIn w.params formKeys)]
theorem says_of {w : World} {K : PySem.W.Frag} (e : ((He5.obsA fa fn K, (ex K, [He.dicW K (He.ga K "HOLDS"), He.dicW K (He.ga K "FORMS"), He.dicW K (He.ga K "ACTIONS")])) : He.AlD × (Bool × List (Option (List (Option (Str × Int)))))) = (He5.valA fn, (true, [some (He.keysIn w.params holdKeys), some (He.keysIn w.params formKeys), some (He.keysIn w.params formKeys)]))) : Says w K := ⟨(Prod.mk.inj e).1, (Prod.mk.inj (Prod.mk.inj e).2).1, (Prod.mk.inj (Prod.mk.inj e).2).2⟩
def hk : PySem.W.Hook where
  α := He.AlD × (Bool × List (Option (List (Option (Str × Int)))))
  obs := fun s => seen 6 s.heap.get?
  val := fun w => (He5.valA fn, (true, [some (He.keysIn w.params holdKeys), some (He.keysIn w.params formKeys), some (He.keysIn w.params formKeys)]))
  says := fun w h => ∃ K : PySem.W.Frag, K.In h ∧ Says w K
  of := fun w s e => ⟨part 6 s.heap.get?, He.frG_in, says_of e⟩
  keeps := fun _ _ _ ⟨K, hK, c⟩ k => ⟨K, PySem.W.Frag.In.keeps hK k, c⟩
def ob (s : PySem.W.SharedT) : He.AlD × (Bool × List (Option (List (Option (Str × Int))))) := seen 6 (HandSHeadRun.getT s)
theorem ob_eq (s : PySem.W.SharedT) : ob s = hk.obs s.abs := by
  have e : HandSHeadRun.getT s = s.abs.heap.get? := funext fun a => HandSHeadRun.getT_eq s a
  show seen 6 (HandSHeadRun.getT s) = seen 6 s.abs.heap.get?
  rw [e] <;> rfl
def seenA (n : Nat) (g : Addr → Option Obj) : He.AlD := He5.obsA fa [] (part n g)
def hkA : PySem.W.Hook where
  α := He.AlD
  obs := fun s => seenA 6 s.heap.get?
  val := fun w => He5.valA []
  says := fun _ _ => True
  of := fun _ _ _ => trivial
  keeps := fun _ _ _ h _ => h
def obA (s : PySem.W.SharedT) : He.AlD := seenA 6 (HandSHeadRun.getT s)
def seenB (n : Nat) (g : Addr → Option Obj) : Bool × List (Option (List (Option (Str × Int)))) := (ex (part n g), [He.dicW (part n g) (He.ga (part n g) "HOLDS"), He.dicW (part n g) (He.ga (part n g) "FORMS"), He.dicW (part n g) (He.ga (part n g) "ACTIONS")])
def hkB : PySem.W.Hook where
  α := Bool × List (Option (List (Option (Str × Int))))
  obs := fun s => seenB 6 s.heap.get?
  val := fun w => (true, [some (He.keysIn w.params holdKeys), some (He.keysIn w.params formKeys), some (He.keysIn w.params formKeys)])
  says := fun _ _ => True
  of := fun _ _ _ => trivial
  keeps := fun _ _ _ h _ => h
def obB (s : PySem.W.SharedT) : Bool × List (Option (List (Option (Str × Int)))) := seenB 6 (HandSHeadRun.getT s)
def seenC (n : Nat) (g : Addr → Option Obj) : He.AlD := He5.obsA [] (fn.take 40) (part n g)
def hkC : PySem.W.Hook where
  α := He.AlD
  obs := fun s => seenC 6 s.heap.get?
  val := fun w => He5.valA (fn.take 40)
  says := fun _ _ => True
  of := fun _ _ _ => trivial
  keeps := fun _ _ _ h _ => h
def obC (s : PySem.W.SharedT) : He.AlD := seenC 6 (HandSHeadRun.getT s)
def seenD (n : Nat) (g : Addr → Option Obj) : He.AlD := He5.obsA [] ((fn.drop 40).take 17) (part n g)
def hkD : PySem.W.Hook where
  α := He.AlD
  obs := fun s => seenD 6 s.heap.get?
  val := fun w => He5.valA ((fn.drop 40).take 17)
  says := fun _ _ => True
  of := fun _ _ _ => trivial
  keeps := fun _ _ _ h _ => h
def obD (s : PySem.W.SharedT) : He.AlD := seenD 6 (HandSHeadRun.getT s)
def seenE (n : Nat) (g : Addr → Option Obj) : He.AlD := He5.obsA [] (fn.drop 57) (part n g)
def hkE : PySem.W.Hook where
  α := He.AlD
  obs := fun s => seenE 6 s.heap.get?
  val := fun w => He5.valA (fn.drop 57)
  says := fun _ _ => True
  of := fun _ _ _ => trivial
  keeps := fun _ _ _ h _ => h
def obE (s : PySem.W.SharedT) : He.AlD := seenE 6 (HandSHeadRun.getT s)
theorem obs_split {fa : List He.Fa} {f1 f2 : List He5.DefA} {K : PySem.W.Frag} (h1 : He5.obsA fa f1 K = He5.valA f1) (h2 : He5.obsA [] f2 K = He5.valA f2) : He5.obsA fa (f1 ++ f2) K = He5.valA (f1 ++ f2) := by
  unfold He5.obsA He5.valA at h1 h2 ⊢
  simp only [Prod.mk.injEq, Bool.and_eq_true, List.all_append, List.map_append] at h1 h2 ⊢
  exact ⟨⟨h1.1.1, h1.1.2, h2.1.2⟩, by rw [h1.2, h2.2]⟩
theorem map_pair {α β γ δ δ2 : Type} {X : Option α} {l : α → β} {k : α → γ} {oA : α → δ} {oB : α → δ2} {b : β} {g : γ} {vA : δ} {vB : δ2} (hA : X.map (fun s => (l s, k s, oA s)) = some (b, g, vA)) (hB : X.map (fun s => (l s, k s, oB s)) = some (b, g, vB)) : X.map (fun s => (l s, k s, oA s, oB s)) = some (b, g, vA, vB) := by
  cases X with
  | none => cases hA
  | some s =>
    simp only [Option.map_some, Option.some.injEq, Prod.mk.injEq] at hA hB ⊢
    exact ⟨hA.1, hA.2.1, hA.2.2, hB.2.2⟩
theorem map_fin {α β γ δ ε : Type} {X : Option α} {l : α → β} {k : α → γ} {oA : α → δ} {o : α → ε} {b : β} {g : γ} {vA : δ} {v : ε} (hA : X.map (fun s => (l s, k s, oA s)) = some (b, g, vA)) (j : ∀ s, oA s = vA → o s = v) : X.map (fun s => (l s, k s, o s)) = some (b, g, v) := by
  cases X with
  | none => cases hA
  | some s =>
    simp only [Option.map_some, Option.some.injEq, Prod.mk.injEq] at hA ⊢
    exact ⟨hA.1, hA.2.1, j s hA.2.2⟩
theorem fn_parts : [] ++ (fn.take 40) ++ ((fn.drop 40).take 17) ++ (fn.drop 57) = fn := by
  rfl
theorem runA_false (w : World) : HandSHeadRun.RunEq R (PySem.W.view R.prog [135]) hkA obA 16000 names (w.withFollow "special-get-raises" false) := by
  intro os
  kernel_rfl
theorem runA_true (w : World) : HandSHeadRun.RunEq R (PySem.W.view R.prog [135]) hkA obA 16000 names (w.withFollow "special-get-raises" true) := by
  intro os
  kernel_rfl
theorem runB_false (w : World) : HandSHeadRun.RunEq R (PySem.W.view R.prog [135]) hkB obB 16000 names (w.withFollow "special-get-raises" false) := by
  intro os
  kernel_rfl
theorem runB_true (w : World) : HandSHeadRun.RunEq R (PySem.W.view R.prog [135]) hkB obB 16000 names (w.withFollow "special-get-raises" true) := by
  intro os
  kernel_rfl
theorem runC_false (w : World) : HandSHeadRun.RunEq R (PySem.W.view R.prog [135]) hkC obC 16000 names (w.withFollow "special-get-raises" false) := by
  intro os
  kernel_rfl
theorem runC_true (w : World) : HandSHeadRun.RunEq R (PySem.W.view R.prog [135]) hkC obC 16000 names (w.withFollow "special-get-raises" true) := by
  intro os
  kernel_rfl
theorem runD_false (w : World) : HandSHeadRun.RunEq R (PySem.W.view R.prog [135]) hkD obD 16000 names (w.withFollow "special-get-raises" false) := by
  intro os
  kernel_rfl
theorem runD_true (w : World) : HandSHeadRun.RunEq R (PySem.W.view R.prog [135]) hkD obD 16000 names (w.withFollow "special-get-raises" true) := by
  intro os
  kernel_rfl
theorem runE_false (w : World) : HandSHeadRun.RunEq R (PySem.W.view R.prog [135]) hkE obE 16000 names (w.withFollow "special-get-raises" false) := by
  intro os
  kernel_rfl
theorem runE_true (w : World) : HandSHeadRun.RunEq R (PySem.W.view R.prog [135]) hkE obE 16000 names (w.withFollow "special-get-raises" true) := by
  intro os
  kernel_rfl
theorem run_join (w : World) (a : HandSHeadRun.RunEq R (PySem.W.view R.prog [135]) hkA obA 16000 names w) (b : HandSHeadRun.RunEq R (PySem.W.view R.prog [135]) hkB obB 16000 names w) (c : HandSHeadRun.RunEq R (PySem.W.view R.prog [135]) hkC obC 16000 names w) (d : HandSHeadRun.RunEq R (PySem.W.view R.prog [135]) hkD obD 16000 names w) (e : HandSHeadRun.RunEq R (PySem.W.view R.prog [135]) hkE obE 16000 names w) : HandSHeadRun.RunEq R (PySem.W.view R.prog [135]) hk ob 16000 names w := fun os => map_fin (map_pair (a os) (map_pair (b os) (map_pair (c os) (map_pair (d os) (e os))))) fun s hP => by
  have hA := (Prod.mk.inj hP).1
  have rA := (Prod.mk.inj hP).2
  have hB := (Prod.mk.inj rA).1
  have rB := (Prod.mk.inj rA).2
  have hC := (Prod.mk.inj rB).1
  have rC := (Prod.mk.inj rB).2
  have hD := (Prod.mk.inj rC).1
  have rD := (Prod.mk.inj rC).2
  have hE := rD
  have e : He5.obsA fa fn (part 6 (HandSHeadRun.getT s)) = He5.valA fn := by
    have z := (obs_split (obs_split (obs_split hA hC) hD) hE)
    rw [fn_parts] at z
    exact z
  exact Prod.ext e (Prod.ext (Prod.mk.inj hB).1 (Prod.mk.inj hB).2)
theorem run_false (w : World) : HandSHeadRun.RunEq R (PySem.W.view R.prog [135]) hk ob 16000 names (w.withFollow "special-get-raises" false) := run_join _ (runA_false w) (runB_false w) (runC_false w) (runD_false w) (runE_false w)
theorem run_true (w : World) : HandSHeadRun.RunEq R (PySem.W.view R.prog [135]) hk ob 16000 names (w.withFollow "special-get-raises" true) := run_join _ (runA_true w) (runB_true w) (runC_true w) (runD_true w) (runE_true w)
theorem run (w : World) : HandSHeadRun.RunEq R (PySem.W.view R.prog [135]) hk ob 16000 names w := PySem.W.byRow2 "special-get-raises" (P := fun w => HandSHeadRun.RunEq R (PySem.W.view R.prog [135]) hk ob 16000 names w) run_false run_true w
end Ov
namespace Ov
open PySem PySem.Spec PyProof.Rows L2
/-! ### object's __ne__ over an own __eq__ -/
section
variable {M : Model} {prog : Program} {w : World} {A : Around} {E : Value → Shared → Prop} {s : Shared} {K : PySem.W.Frag} {x C f : Addr} {ox : Obj} {od : Option Obj}
theorem bound_ne {rest : List Value} {Q : Option Value → Shared → Prop} (kin : K.In s.heap) (J : PySem.W.InstAt s.heap x ox C od) (hn : PySem.W.findIn K (.ref C) "__ne__" = some (some (.builtin "object.__ne__")))
    (run : wpAny M A (call (.builtin "object.__ne__") (.ref x :: rest)) (fun r => Q (some r)) E s) : wpAny M A (callSpecialIfBound? (.ref x) "__ne__" rest) Q E s := by
  simp only [callSpecialIfBound?, bindSpecialIfBound?]
  refine wpAny_holding (wpAny_bind (wpAny_bind (wpAny_bind (J.type.here ((PySem.W.looks_findIn kin hn).here ?_)))))
  refine wpAny_bind (wpAny_askSetting (wpAny_ite ?_))
  have last : wpAny M A (call (.builtin "object.__ne__") ([.ref x] ++ rest) >>= fun r => pure (some r)) Q E s := wpAny_bind (wpAny_mono run (fun r s1 h1 => wpAny_pure h1) fun _ _ h1 => h1)
  split
  · exact wpAny_bind (wpAny_of_eq (F.cmp_object.ne.bind _) (wpAny_pure (by exact last)))
  · exact wpAny_tryCatch (wpAny_bind (wpAny_of_eq (F.cmp_object.ne.bind _) (wpAny_pure (by exact last))))
theorem objNe_run {y : Addr} {Q : Fin → Shared → Prop} (hu : A.units < cLine) (kin : K.In s.heap) (J : PySem.W.InstAt s.heap x ox C od) (hs : PySem.W.findIn K (.ref C) "__eq__" = some (some (.ref f))) (hf : PySem.W.isFn K (.ref f) = true)
    (run : wpAny (model prog w) A (call (.ref f) [.ref x, .ref y]) (fun v s1 => ∃ b, v = .bool b ∧ Q (.done (.ret (.bool (!b)))) s1) E s) : wpAny (model prog w) A (Builtin.«object.__ne__» ⟨[.ref x, .ref y], []⟩) Q E s := by
  unfold Builtin.«object.__ne__»
  refine wpAny_bind (m := slotArgs "__ne__" 1 _) (wpAny_pure ?_)
  refine wpAny_bind (m := cRoomFor _ _) (wpAny_cRoomFor hu ?_)
  refine wpAny_bind (m := callSpecialIfBound? (.ref x) (Str.ofString "__eq__") _) (PySem.W.ifBound_K kin J hs hf (wpAny_mono run (fun r s1 h1 => ?_) fun _ _ z => z))
  obtain ⟨b, rfl, q⟩ := h1
  exact wpAny_bind (wpAny_truthy_bool (wpAny_pure q))
end
section
variable {X : Cx} {CX : CXT} {k : Nat} {f C : Addr} {fd : FuncData} {ps : List Str} {sp : Sp} {E : XK}
/-- a def run somewhere below the body -/
theorem run_sub {A : Around} (F : FnOk X.prog X.w X.K X.mg X.base CX k f fd ps sp) (sb : Sub X k A) (hb : Binds X.K fd ps []) (hx : Passes CX X E) {pins : List (Addr × Obj)} {σ : L2.St} {H : Hp} {s : Shared} {vs : List V} {us : List Value} {Q : VK}
    (I : Inv X pins σ H s) (r : Vals vs us) (h : sp vs H Q E) : wpAny (model X.prog X.w) A (call (.ref f) us) (EP X pins σ Q) X.xe s := by
  have e0 : Env0 X.prog X.w X.K X.mg X.base A X.stack s H := by
    have e := I.env0
    exact ⟨by rw [sb.fr]; exact e.frames, e.mod, e.bs, e.bsz, e.funs, e.frf, e.hok, e.bare⟩
  have hl : (us ++ []).length = ps.length := by rw [List.append_nil, ← r.length]; exact F.len _ _ _ _ h
  refine wpAny_call (codeAny_mono (F.run A X.stack s H ⟨us, []⟩ us vs Q E sb.room e0 (by
    have := hb s us I.kIn hl
    simpa using this) r h) fun r s' hq => ?_)
  cases r with
  | error e => exact hx pins σ H s e s' I hq
  | ok fl =>
    cases fl with
    | ret u => exact I.after hq
    | next => exact False.elim hq
    | brk => exact False.elim hq
    | cont => exact False.elim hq
theorem sub0 (hr : Room k X.A) : Sub X k X.A := ⟨hr, rfl⟩
theorem sub1 (hr : Room (k + 1) X.A) : Sub X k X.A.in1 := Sub.in1 ⟨hr, rfl⟩
theorem sub2 (hr : Room (k + 2) X.A) : Sub X k X.A.in1.in1 := Sub.in1 (Sub.in1 (n := k + 1) ⟨hr, rfl⟩)

/-- x == y of two instances of the class at C by its own __eq__ -/
def rEqI (C : Addr) (sp : Sp) (E : XK) : R2 := fun x y H Q => ∃ a b dx dy fs gs, x = .ref a ∧ y = .ref b ∧ H a = some (.ins C dx fs) ∧ H b = some (.ins C dy gs) ∧ sp [x, y] H (fun v H' => ∃ b, v = .bl b ∧ Q (.bl b) H') E
theorem op_eqI (F : FnOk X.prog X.w X.K X.mg X.base CX k f fd ps sp) (hr : Room k X.A) (hs : PySem.W.findIn X.K (.ref C) "__eq__" = some (some (.ref f))) (hf : PySem.W.isFn X.K (.ref f) = true) (hb : Binds X.K fd ps []) (hx : Passes CX X E) :
    OpR X (compareOp .Eq) (rEqI C sp E) := by
  intro pins s σ H x y v u Q I rx ry h
  obtain ⟨a, b, dx, dy, fs, gs, rfl, rfl, ha, hb', hq⟩ := h
  cases rx
  cases ry
  obtain ⟨mA, J, _⟩ := ins_get I.hok ha
  obtain ⟨mB, J', _⟩ := ins_get I.hok hb'
  obtain ⟨od, J, _⟩ := J.look
  obtain ⟨od', J', _⟩ := J'.look
  obtain ⟨m, hF⟩ := I.fr
  show wpAny (model X.prog X.w) X.A (richCompare .Eq (.ref a) (.ref b)) _ _ s
  refine PySem.W.cmp_K (op := .Eq) (tb := .ref C) hr.units0 hF I.ok.mod.kin J J'.type (by simp [PySem.W.notFirst]) hs hf ?_
  refine wpAny_mono (run_sub F (sub0 hr) hb hx I (vs := [.ref a, .ref b]) (us := [.ref a, .ref b]) (.cons rfl (.cons rfl .nil)) hq) (fun v s' hv => ?_) fun _ _ z => z
  obtain ⟨z, H', I', rz, c, rfl, q⟩ := hv
  cases rz
  exact ⟨.bl c, H', I', rfl, q⟩

/-- str(x) by the class's own __str__ -/
def rStrI (C : Addr) (sp : Sp) (E : XK) : List V → Hp → VK → Prop := fun xs H Q => ∃ a dx fs, xs = [.ref a] ∧ H a = some (.ins C dx fs) ∧ sp [.ref a] H (fun v H' => ∃ z, v = .str z ∧ Q (.str z) H') E
theorem call_strI (F : FnOk X.prog X.w X.K X.mg X.base CX k f fd ps sp) (hr : Room (k + 2) X.A) (hs : PySem.W.findIn X.K (.ref C) "__str__" = some (some (.ref f))) (hf : PySem.W.isFn X.K (.ref f) = true) (hb : Binds X.K fd ps []) (hx : Passes CX X E) :
    CallR X (.type "str") (rStrI C sp E) := by
  intro pins s σ H xs us Q I r h
  obtain ⟨a, dx, fs, rfl, ha, hq⟩ := h
  obtain ⟨u, rfl, rx⟩ := vals1 r
  cases rx
  obtain ⟨mA, J, _⟩ := ins_get I.hok ha
  obtain ⟨od, J, _⟩ := J.look
  refine PySem.W.kso_call (sub2 hr).room.units0 I.kIn J hs hf ?_
  refine wpAny_mono (run_sub F (sub2 hr) hb hx I (vs := [.ref a]) (us := [.ref a]) (.cons rfl .nil) hq) (fun v s' hv => ?_) fun _ _ z => z
  obtain ⟨z, H', I', rz, c, rfl, q⟩ := hv
  obtain ⟨t, rfl⟩ := rz
  exact ⟨.str c, H', I', ⟨t, rfl⟩, q⟩
/-- x != y of two instances of the class at C, by its own __eq__ and object's __ne__ -/
def rNeI (C : Addr) (sp : Sp) (E : XK) : R2 := fun x y H Q => ∃ a b dx dy fs gs, x = .ref a ∧ y = .ref b ∧ H a = some (.ins C dx fs) ∧ H b = some (.ins C dy gs) ∧ sp [x, y] H (fun v H' => ∃ b, v = .bl b ∧ Q (.bl (!b)) H') E
theorem op_neI (F0 : FnOk X.prog X.w X.K X.mg X.base CX k f fd ps sp) (hr : Room (k + 1) X.A) (hs : PySem.W.findIn X.K (.ref C) "__eq__" = some (some (.ref f))) (hn : PySem.W.findIn X.K (.ref C) "__ne__" = some (some (.builtin "object.__ne__")))
    (hm : PySem.W.mroIn X.K C (.type "object") = some true) (hf : PySem.W.isFn X.K (.ref f) = true) (hb : Binds X.K fd ps []) (hx : Passes CX X E) :
    OpR X (compareOp .NotEq) (rNeI C sp E) := by
  intro pins s σ H x y v u Q I rx ry h
  obtain ⟨a, b, dx, dy, fs, gs, rfl, rfl, ha, hb', hq⟩ := h
  cases rx
  cases ry
  obtain ⟨mA, J, _⟩ := ins_get I.hok ha
  obtain ⟨mB, J', _⟩ := ins_get I.hok hb'
  obtain ⟨od, J, _⟩ := J.look
  obtain ⟨od', J', _⟩ := J'.look
  obtain ⟨m, hF⟩ := I.fr
  have hu := hr.units
  show wpAny (model X.prog X.w) X.A (richCompare .NotEq (.ref a) (.ref b)) _ _ s
  unfold richCompare
  simp only [oneThing_ref]
  refine wpAny_holding (wpAny_bind (wpAny_cRoomFor hr.units0 ?_))
  rw [cmpInfo_NotEq]
  dsimp only
  refine wpAny_bind (J.type.here (wpAny_bind (J'.type.here ?_)))
  rw [show (Value.ref C != Value.ref C) = false from by simp]
  simp only [Bool.false_eq_true, if_false]
  refine wpAny_bind (wpAny_pure ?_)
  simp only [Bool.false_eq_true, if_false]
  simp only [tryCompare]
  refine wpAny_bind (wpAny_bind (bound_ne I.kIn J hn (wpAny_call (codeAny_call_builtin F.cmp_object.ne.plain F.cmpEntry_ne (PySem.W.check_slot F.cmpKind_ne F.cmpSplit_ne (J.type.andThen (PySem.W.looks_mroIn I.kIn hm)) (F.cmpArgs_ne _ _) ?_)))))
  refine objNe_run (by show X.A.units + 1 < cLine; omega) I.kIn J hs hf (wpAny_mono (run_sub F0 (sub1 hr) hb hx I (vs := [.ref a, .ref b]) (us := [.ref a, .ref b]) (.cons rfl (.cons rfl .nil)) hq) (fun v s' hv => ?_) fun _ _ z => z)
  obtain ⟨z, H', I', rz, c, rfl, q⟩ := hv
  cases rz
  exact ⟨c, rfl, wpAny_pure (wpAny_pure ⟨.bl (!c), H', I', rfl, q⟩)⟩
/-- x[i] of an instance of the class at C, by its own __getitem__ -/
def rIxI (C : Addr) (sp : Sp) (E : XK) : R2 := fun x y H Q => ∃ a dx fs, x = .ref a ∧ H a = some (.ins C dx fs) ∧ sp [x, y] H Q E
theorem pe_ixI {e i : Expr} {pos : Pos} {ta tb : TE} (F0 : FnOk X.prog X.w X.K X.mg X.base CX k f fd ps sp) (hr : Room (k + 1) X.A) (hs : PySem.W.findIn X.K (.ref C) "__getitem__" = some (some (.ref f))) (hfn : PySem.W.fnIn X.K f = true) (hf : PySem.W.isFn X.K (.ref f) = true)
    (hb : Binds X.K fd ps []) (hx : Passes CX X E) (he : PE X e ta) (hi : PE X i tb) (hsl : ∀ (a : Addr) (v : Value), subscripted i true (.ref a) v = runValue (.builtin "lifetime.subscript" ⟨[.ref a, v], []⟩) := by intro _ _; with_unfolding_all rfl) :
    PE X (.Subscript e i pos) (tOp (rIxI C sp E) ta tb) := by
  refine ⟨fun pins s σ H Q I h => ?_⟩
  refine Subscript_ (binT he hi I h fun v u s2 x y H2 I2 rx ry q => ?_)
  obtain ⟨a, dx, fs, rfl, ha, hq⟩ := q
  cases rx
  obtain ⟨mA, J, _⟩ := ins_get I2.hok ha
  obtain ⟨od, J, _⟩ := J.look
  obtain ⟨m, hF⟩ := I2.fr
  exact PySem.W.sub_K hF I2.ok.mod.kin J hs hfn hf (run_sub F0 (sub1 hr) hb hx I2 (vs := [.ref a, y]) (us := [.ref a, u]) (.cons rfl (.cons ry .nil)) hq) (hsl a u)
end
/-! ### what is walked is a list or a tuple -/
section
variable {X : Cx}
theorem pi_alt {tg it : Expr} {w1 w2 : TI} (h1 : PI X tg it w1) (h2 : PI X tg it w2) : PI X tg it (fun σ H R => w1 σ H R ∨ w2 σ H R) :=
  ⟨fun pins s σ H R I h => h.elim (h1.run pins s σ H R I) (h2.run pins s σ H R I)⟩
def iBoth (K : PySem.W.Frag) (te : TE) : TI := fun σ H R => iList K te σ H R ∨ iTup K te σ H R
theorem pi_both {tg e : Expr} {te : TE} (he : PE X e te) : PI X tg e (iBoth X.K te) := pi_alt (pi_list he) (pi_tup he)
end
section
open Evl
variable {K : PySem.W.Frag} {σ : L2.St} {H : Hp} {te tl : TE} {D : Ends}
theorem given_all (n : Nat) (v : Nat → V) : given n (fun _ => true) v = (List.range n).map v := by
  unfold given
  rw [List.filter_eq_self.mpr fun _ _ => rfl]
theorem et_yes : EvT tYes σ H true := fun H1 _ _ q => q H1 (Ex.refl H1)
theorem el_lcT {a : Addr} {xs : List V} {j : Nat} {vs : List Nat} (v : Nat → V) (h : Ev tl σ H (.ref a)) (hx : SqT K H a xs) (hz : xs.length ≤ 40000) (hw : ∀ x, wipe ((wipe σ vs).set j (some x)) vs = wipe σ vs)
    (he : ∀ (i : Nat) (x : V) H1, Ex H H1 → xs[i]? = some x → Ev te ((wipe σ vs).set j (some x)) H1 (v i)) : EvL (tLc (iTup K tl) (gName j) tYes te vs) σ H ((List.range xs.length).map v) := fun H0 e Q q => h H0 e _ fun H1 e1 => ⟨a, rfl, ⟨xs, ex_t (e.trans e1) hx⟩, fun L hL =>
  lc_tup (xs := xs) (Cw H1 (fun _ => true) v L) ⟨hL, Ex.new hL, upd_same⟩ (fun i H' _ p => ex_t ((e.trans e1).trans p.2.1) hx)
    (fun i x H' hi p => ⟨hw x, cw_turn p (by have := (List.getElem?_eq_some_iff.mp hi).1; omega) et_yes (fun _ => he i x H1 (e.trans e1) hi)⟩)
    (fun H' p => q L H' (fresh_back e1 p.1) (e1.trans p.2.1) (by rw [← given_all]; exact p.2.2))⟩
theorem el_lcB {a : Addr} {xs : List V} {j : Nat} {vs : List Nat} (v : Nat → V) (h : Ev tl σ H (.ref a)) (hx : SqL K H a xs ∨ SqT K H a xs) (hz : xs.length ≤ 40000) (hw : ∀ x, wipe ((wipe σ vs).set j (some x)) vs = wipe σ vs)
    (he : ∀ (i : Nat) (x : V) H1, Ex H H1 → xs[i]? = some x → Ev te ((wipe σ vs).set j (some x)) H1 (v i)) : EvL (tLc (iBoth K tl) (gName j) tYes te vs) σ H ((List.range xs.length).map v) := fun H0 e Q q => by
  rcases hx with hx | hx
  · refine .inl (el_lcL (f := fun _ => true) (v := v) h hx hz hw (fun _ _ _ _ _ => et_yes) (fun i x H1 e1 hi _ => he i x H1 e1 hi) H0 e Q fun p H2 h1 h2 h3 => q p H2 h1 h2 ?_)
    rw [given_all] at h3
    exact h3
  · exact .inr (el_lcT v h hx hz hw he H0 e Q q)
theorem range_map {α : Type} (xs : List V) (g : V → α) (v : Nat → α) (h : ∀ i x, xs[i]? = some x → v i = g x) : (List.range xs.length).map v = xs.map g := by
  refine List.ext_getElem? fun i => ?_
  rw [List.getElem?_map, List.getElem?_map]
  by_cases hi : i < xs.length
  · rw [List.getElem?_range hi, List.getElem?_eq_getElem hi]
    exact congrArg some (h i _ (List.getElem?_eq_getElem hi))
  · rw [List.getElem?_eq_none (by rw [List.length_range]; omega), List.getElem?_eq_none (by omega)]
    rfl
end
section
open Evl
variable {P : Program} {w : World} {K : PySem.W.Frag} {mg : Str → Option Value} {base : Heap} {σ : L2.St} {H : Hp} {te : TE}
/-- a def with defaults that raises nothing -/
theorem FunD_ok0 {x qual : Str} {params : Arguments} {body : List Stmt} {scope : Scope} {dvs : List V} {kws : List (Str × V)} {f : Addr} {fd : FuncData} {N ps : List Str} {k : Nat} {sp : Sp} (F : FunD K x qual params body scope dvs kws f fd) (S : FnScope N ps scope)
    (len : ∀ vs H Q E, sp vs H Q E → vs.length = ps.length)
    (hbody : ∀ (cdv : Value) (A : Around) (outer : List Env) (s : Shared) (H : Hp) (vs : List V) (Q : VK) (E : XK), Room k (A.deeper (envOfC qual scope s.heap.objs.size f cdv)) → sp vs H Q E →
      ∃ t, PSs (cxOf CX0 P w K mg base N qual scope f cdv A outer s H E).nox body t ∧ t { nx := fun _ H' => Q .non H', rt := Q } (start N vs) H) : FnOk P w K mg base CX0 (k + 1) f fd ps sp :=
  F.ok S len fun cdv A outer s H vs Q E hr hsp => by
    obtain ⟨t, h, q⟩ := hbody cdv A outer s H vs Q E hr hsp
    exact ⟨t, h.nox, q⟩
theorem ev_all {bs : List Bool} (h : EvL te σ H (bs.map V.bl)) : Ev (tCB (rAll K) (tCons te tNil)) σ H (.bl (bs.all id)) := fun H1 e _ q =>
  h H1 e _ fun p H2 _ e2 hp => ⟨p, bs, rfl, sq_of hp, q H2 e2⟩
/-- a promise of one value, as an evaluation -/
theorem ev_call {sp : Sp} {ta : TA} {vs : List V} {v : V} (ha : EvA ta σ H vs) (h : ∀ H1, Ex H H1 → ∀ Q : VK, (∀ H2, Ex H1 H2 → Q v H2) → sp vs H1 Q E0) : Ev (tCall sp [] E0 ta) σ H v := fun H1 e Q q =>
  ha H1 e _ fun H2 e2 => by
    rw [List.append_nil]
    exact h H2 (e.trans e2) Q fun H3 e3 => q H3 (e2.trans e3)
theorem all_true (n : Nat) : (List.replicate n true).all id = true := by
  rw [List.all_eq_true]
  intro x hx
  exact (List.mem_replicate.mp hx).2
theorem range_true (n : Nat) : (List.range n).map (fun _ => V.bl true) = (List.replicate n true).map V.bl := by
  rw [List.map_const', List.length_range, List.map_replicate]
end
/-- tuple(x) of a list or a tuple: some tuple of the same items -/
def rTupAny (K : PySem.W.Frag) : List V → Hp → VK → Prop := fun xs H Q => ∃ p ys, xs = [.ref p] ∧ (SqL K H p ys ∨ SqT K H p ys) ∧ ∀ a H', Evl.Ex H H' → SqT K H' a ys → Q (.ref a) H'
theorem call_tuple_any {X : Cx} : CallR X (.type "tuple") (rTupAny X.K) := fun pins s σ H xs us Q I r h => by
  obtain ⟨p, ys, e, h1, h2⟩ := h
  refine call_tuple_of pins s σ H xs us Q I r ⟨p, ys, e, ?_⟩
  rcases h1 with h1 | h1
  · exact .inl ⟨h1, fun l hl => h2 l _ (Evl.Ex.new hl) (Evl.st_of upd_same)⟩
  · exact .inr ⟨h1, h2 p H (Evl.Ex.refl H) h1⟩
/-! ### tuples of texts compared -/
section
open Evl
theorem dp_strs {K : PySem.W.Frag} {H : Hp} : ∀ l : List Str, DpAll K H (l.map V.str) (l.map PyData.str)
  | [] => .nil
  | n :: r => .cons (.str n) (dp_strs r)
/-- texts of plain signs -/
def Plain (l : List Str) : Prop := ∀ x ∈ l, PyData.canLay0 (.str x) = true
theorem canLay_strs : ∀ l : List Str, Plain l → PyData.canLayAll0 (l.map PyData.str) = true
  | [], _ => rfl
  | n :: r, h => by
    show (PyData.canLay0 (.str n) && PyData.canLayAll0 (r.map PyData.str)) = true
    rw [canLay_strs r fun x hx => h x (List.mem_cons_of_mem _ hx), h n (List.mem_cons_self ..)]
    rfl
theorem depth_strs : ∀ l : List Str, PyData.depthAll (l.map PyData.str) = 0
  | [] => rfl
  | n :: r => by
    show max (PyData.depth (.str n)) (PyData.depthAll (r.map PyData.str)) = 0
    rw [depth_strs r]
    rfl
theorem shaped_strsT (l : List Str) (ok : Plain l) : SeqAt.shaped (.tuple (l.map PyData.str)) = true := by
  show (PyData.canLay0 (.tuple (l.map PyData.str)) && decide ((PyData.tuple (l.map PyData.str)).depth ≤ 64)) = true
  have h1 : PyData.canLay0 (.tuple (l.map PyData.str)) = true := canLay_strs l ok
  have h2 : (PyData.tuple (l.map PyData.str)).depth = 0 + 1 := by
    show PyData.depthAll (l.map PyData.str) + 1 = 0 + 1
    rw [depth_strs]
  rw [h1, h2]
  rfl
theorem shaped_strsL (l : List Str) (ok : Plain l) : SeqAt.shaped (.list (l.map PyData.str)) = true := by
  show (PyData.canLay0 (.list (l.map PyData.str)) && decide ((PyData.list (l.map PyData.str)).depth ≤ 64)) = true
  have h1 : PyData.canLay0 (.list (l.map PyData.str)) = true := canLay_strs l ok
  have h2 : (PyData.list (l.map PyData.str)).depth = 0 + 1 := by
    show PyData.depthAll (l.map PyData.str) + 1 = 0 + 1
    rw [depth_strs]
  rw [h1, h2]
  rfl
theorem eqvAll_strs : ∀ l m : List Str, PyData.eqvAll (l.map PyData.str) (m.map PyData.str) = decide (l = m)
  | [], [] => rfl
  | [], _ :: _ => rfl
  | _ :: _, [] => rfl
  | x :: l, y :: m => by
    show (x == y && PyData.eqvAll (l.map PyData.str) (m.map PyData.str)) = decide (x :: l = y :: m)
    rw [eqvAll_strs l m]
    by_cases h : x = y
    · subst h
      by_cases h2 : l = m
      · subst h2
        simp
      · simp [h2]
    · simp [h]
theorem eqv_strsT (l m : List Str) : PyData.eqv (.tuple (l.map PyData.str)) (.tuple (m.map PyData.str)) = decide (l = m) := eqvAll_strs l m
theorem eqv_strsL (l m : List Str) : PyData.eqv (.list (l.map PyData.str)) (.list (m.map PyData.str)) = decide (l = m) := eqvAll_strs l m
theorem rv_eqT {K : PySem.W.Frag} {H : Hp} {a b : Addr} {l m : List Str} (ol : Plain l) (om : Plain m) (ha : SqT K H a (l.map V.str)) (hb : SqT K H b (m.map V.str)) : RV (rEqD K) (.ref a) (.ref b) H (.bl (decide (l = m))) := fun H1 e _ q =>
  ⟨_, _, .tup (ex_t e ha) (dp_strs l), .tup (ex_t e hb) (dp_strs m), shaped_strsT l ol, shaped_strsT m om, by rw [eqv_strsT]; exact q H1 (Ex.refl H1)⟩
theorem rv_neT {K : PySem.W.Frag} {H : Hp} {a b : Addr} {l m : List Str} (ol : Plain l) (om : Plain m) (ha : SqT K H a (l.map V.str)) (hb : SqT K H b (m.map V.str)) : RV (rNeD K) (.ref a) (.ref b) H (.bl (!decide (l = m))) := fun H1 e _ q =>
  ⟨_, _, .tup (ex_t e ha) (dp_strs l), .tup (ex_t e hb) (dp_strs m), shaped_strsT l ol, shaped_strsT m om, by rw [eqv_strsT]; exact q H1 (Ex.refl H1)⟩
theorem ev_fld {K : PySem.W.Frag} {σ : L2.St} {H : Hp} {ta : TE} {a C dx : Addr} {fs : List (Str × V)} {f : Str} {v : V} (ha : Ev ta σ H (.ref a)) (ho : H a = some (.ins C dx fs)) (hc : Cls K C) (hn : NoAttr K C f) (hl : fs.lookup f = some v) :
    Ev (tFld K ta f) σ H v := fun H1 e _ q => ha H1 e _ fun H2 e2 => ⟨a, C, dx, fs, v, rfl, e2 _ _ (e _ _ ho), hc, hn, hl, q H2 e2⟩
theorem ev_isi {K : PySem.W.Frag} {σ : L2.St} {H : Hp} {ta : TA} {x c : V} {t u : Value} {b : Bool} (h : EvA ta σ H [x, c]) (k : ClsV c u) (ty : ∀ H1, Ex H H1 → TyX K H1 x t) (e : PySem.W.kitOne K t u = some b) : Ev (tCB (rIsi K) ta) σ H (.bl b) := fun H1 e1 _ q =>
  h H1 e1 _ fun H2 e2 => ⟨x, c, t, u, b, rfl, k, ty H2 (e1.trans e2), e, q H2 e2⟩
end
section
open Evl
variable {K : PySem.W.Frag} {σ : L2.St} {H : Hp} {ta tb to te : TE}
theorem ev_adds {x y : Str} (ha : Ev ta σ H (.str x)) (hb : Ev tb σ H (.str y)) (hz : x.length + y.length ≤ sizeLine) : Ev (tOp (fun x y H Q => ∃ i j, x = V.str i ∧ y = V.str j ∧ i.length + j.length ≤ sizeLine ∧ Q (V.str (i ++ j)) H) ta tb) σ H (.str (x ++ y)) :=
  ev_op ha hb fun H1 _ _ q => ⟨x, y, rfl, rfl, hz, q H1 (Ex.refl H1)⟩
theorem ev_join {x : Str} {a : Addr} {l : List Str} (ho : Ev to σ H (.str x)) (he : Ev te σ H (.ref a)) (hl : SqL K H a (l.map V.str) ∨ SqT K H a (l.map V.str)) (hz : (l.map (·.length)).sum + l.length * x.length ≤ 16777216) :
    Ev (tM1 (fun x xs H Q => ∃ a p, ∃ ys : List Str, x = .str a ∧ xs = [.ref p] ∧ (SqL K H p (ys.map V.str) ∨ SqT K H p (ys.map V.str)) ∧ (ys.map (·.length)).sum + ys.length * a.length ≤ 16777216 ∧ Q (.str (Txt.join a ys)) H) to te) σ H (.str (Str.join x l)) := fun H1 e Q q => by
  refine ho H1 e _ fun H2 e2 => ⟨⟨x, rfl⟩, he H2 (e.trans e2) _ fun H3 e3 => ⟨x, a, l, rfl, rfl, hl.imp (ex_l ((e.trans e2).trans e3)) (ex_t ((e.trans e2).trans e3)), hz, ?_⟩⟩
  rw [TL.join_eq]
  exact q H3 (e2.trans e3)
theorem ev_ixT {p : Addr} {xs : List V} {j : Nat} {v : V} (ha : Ev ta σ H (.ref p)) (hb : Ev tb σ H (.int (j : Int))) (hx : SqT K H p xs) (hj : xs[j]? = some v) : Ev (tOp (rIxT K) ta tb) σ H v := ev_op ha hb (rv_ixT hx (atI_nat hj))
end
/-! ### sorted of a list or a tuple of texts -/
section
variable {X : Cx}
def rSortedB (K : PySem.W.Frag) : List V → Hp → VK → Prop := fun vs H Q => ∃ (a : Addr) (xs : List Str), vs = [V.ref a] ∧ (SqL K H a (xs.map V.str) ∨ SqT K H a (xs.map V.str)) ∧ xs.length < 64 ∧ ∀ (ys : List Str) (p : Addr), ys.Perm xs → sortedS ys = true → H p = none → Q (.ref p) (upd H p (.lst (ys.map V.str)))
theorem cr_sortedB : CallR X (.builtin "sorted") (rSortedB X.K) := by
  intro pins s σ H vs us Q I r h
  obtain ⟨a, xs, rfl, hs, h64, q⟩ := h
  rw [Vals.ref1 r]
  obtain ⟨its, T, o, n, rv, hT, ho, hc, hd⟩ : ∃ (its : List Value) (T : String) (o : Obj) (n : Nat), Vals (xs.map V.str) its ∧ (T = "list" ∨ T = "tuple") ∧ s.heap.get? a = some o ∧ o.cls = .type T ∧ o.data = .seq its.toArray n := by
    rcases hs with hs | hs
    · obtain ⟨its, r', pl, _⟩ := I.list hs
      obtain ⟨o, ho, hc, n, hd⟩ := pl.isList
      exact ⟨its, "list", o, n, r', .inl rfl, ho, hc, hd⟩
    · obtain ⟨its, r', ⟨o, ho, hc, n, hd⟩, _⟩ := I.tuple hs
      exact ⟨its, "tuple", o, n, r', .inr rfl, ho, hc, hd⟩
  have hl : its.length = xs.length := by
    have := rv.length
    rw [List.length_map] at this
    exact this.symm
  have hS := rv.strs
  refine Calls.call_function_entry PyProof.Rows.kind_sorted PyProof.Rows.plain_sorted PyProof.Rows.entry_sorted (PyProof.Rows.args_sorted1 _) ?_
  unfold Builtin.«sorted»
  refine wpAny_bind (m := checkCount "sorted" 1 1 _) (wpAny_pure ?_)
  refine wpAny_bind (wpAny_collect_seq a hT ho hc hd (fun h' hk => ?_) (by rw [List.size_toArray, hl, sizeLine_eq]; omega))
  have I1 : Inv X pins σ H { s with heap := h' } := I.kept (t' := s.toks) hk
  show wpAny _ _ _ _ _ { s with heap := h' }
  have eT : its.toArray.toList = its := by simp
  rw [eT]
  refine wpAny_bind (wpAny_newList ?_ (by rw [hl, sizeLine_eq]; omega))
  have hoL : (h'.push (seqObj "list" its.toArray 0)).get? h'.objs.size = some (seqObj "list" its.toArray 0) := Heap.get?_push_size _ rfl
  show wpAny _ _ _ _ _ { s with heap := h'.push (seqObj "list" its.toArray 0) }
  refine wpAny_bind (wpAny_holding (wpAny_call_entry PyProof.Rows.slot_list_sort ⟨_, hoL, rfl⟩ PyProof.Rows.entry_list_sort
    (list_sort_treeK strKind_oneLt (s := { s with heap := h'.push (seqObj "list" its.toArray 0) }) hoL hS.keysOf (fun v₁ v₂ rest e => keyKind_strs (by rw [← e]; exact hS)) (by rw [hl]; exact h64) fun st' hp hs => ⟨_, rfl, ?_⟩)
    (PyProof.Rows.args_list_sort _)))
  obtain ⟨ys, g1, g2, g3⟩ := sorted_out_str hS hp hs
  obtain ⟨e', he'⟩ := PyProof.Rows.sortedHeap_at (vs := its) (out := (arrOf st').map (·.2)) hoL
  have hlen : (ys.map V.str).length ≤ sizeLine := by
    rw [List.length_map, g2.length_eq]
    exact Nat.le_trans (Nat.le_of_lt h64) (by decide)
  refine wpAny_pure ⟨_, rfl, .ref h'.objs.size, upd H h'.objs.size (.lst (ys.map V.str)), I1.laid (t' := s.toks) (fun b u e => ?_) (Nat.le_refl _)
    (show ObjOk X.prog X.w _ _ _ (.lst (ys.map V.str)) from ⟨hlen, ((arrOf st').map (·.2)).toList, e', vals_of_strs g1, by rw [Array.toArray_toList]; exact he'⟩), rfl, q ys _ g2 g3 (I1.hok.fresh (Nat.le_refl _))⟩
  have hb : b < h'.objs.size := Heap.lt_size e
  rw [PyProof.Rows.sortedHeap_old (Nat.ne_of_lt hb) (by rw [size_push']; exact Nat.lt_succ_of_lt hb)]
  exact Heap.get?_push_of_some _ e
end
end Ov


namespace Ov
open PySem PySem.Spec PyProof.Rows L2
/-! ### t[::-1] of a tuple, the step told by an expression -/
section
variable {prog : Program} {w : World} {A : Around} {E : Value → Shared → Prop} {s : Shared}
theorem cut_back {sl : Addr} {vl vu vs : Value} {n : Nat} {Q : Int × Int × Nat → Shared → Prop} (hs : s.heap.IsSliceOf sl vl vu vs) (pl : IsPart vl none) (pu : IsPart vu none) (ps : IsPart vs (some (-1))) (h : Q ((n : Int) - 1, -1, n) s) :
    wpAny (model prog w) A (Builtin.Slice.sliceApplied (.ref sl) (pure (n : Int))) Q E s := by
  obtain ⟨os, hos, hcs, hds⟩ := id hs
  unfold Builtin.Slice.sliceApplied Builtin.Slice.sliceFields
  refine wpAny_bind (wpAny_bind (wpAny_field hos hds (x := vl) rfl (wpAny_bind (wpAny_field hos hds (x := vu) rfl (wpAny_bind (wpAny_field hos hds (x := vs) rfl (wpAny_pure ?_)))))))
  refine wpAny_bind (HT.slicePart_ ps ?_)
  show wpAny _ _ (if ((-1 : Int) == 0) = true then _ else _) _ _ s
  rw [if_neg (by decide)]
  refine wpAny_bind (HT.slicePart_ pl (wpAny_bind (HT.slicePart_ pu (wpAny_bind (wpAny_pure ?_)))))
  have e1 : Builtin.Slice.sliceAdjust none none (-1) (n : Int) = ((n : Int) - 1, -1) := rfl
  have e2 : Builtin.Slice.slicePlaces ((n : Int) - 1) (-1) (-1) = n := by
    unfold Builtin.Slice.slicePlaces
    rw [if_neg (by decide)]
    by_cases h0 : n = 0
    · subst h0
      decide
    · rw [if_pos (by omega)]
      have e3 : (-(-1) : Int) = 1 := by decide
      rw [e3, Int.ediv_one]
      omega
  show wpAny _ _ (match Builtin.Slice.sliceAdjust none none (-1) (n : Int) with | (lo, hi) => pure (lo, (-1 : Int), Builtin.Slice.slicePlaces lo hi (-1))) _ _ s
  rw [e1]
  show wpAny _ _ (pure ((n : Int) - 1, (-1 : Int), Builtin.Slice.slicePlaces ((n : Int) - 1) (-1) (-1))) _ _ s
  rw [e2]
  exact wpAny_pure h
theorem fm_range {α : Type} {f : Nat → Option α} {g : Nat → α} : ∀ {n : Nat}, (∀ m, m < n → f m = some (g m)) → (List.range n).filterMap f = (List.range n).map g
  | 0, _ => rfl
  | n + 1, h => by
    rw [List.range_succ, List.filterMap_append, List.map_append, fm_range fun m hm => h m (by omega)]
    congr 1
    show List.filterMap f [n] = [g n]
    rw [List.filterMap_cons, h n (by omega)]
    rfl
theorem pick_back (xs : Array Value) : ((List.range xs.size).filterMap fun (m : Nat) => xs[((xs.size : Int) - 1 + (m : Int) * -1).toNat]?).toArray = xs.toList.reverse.toArray := by
  have e : (List.range xs.size).filterMap (fun (m : Nat) => xs[((xs.size : Int) - 1 + (m : Int) * -1).toNat]?) = (List.range xs.size).map fun m => (xs.toList.reverse)[m]?.getD .none := by
    refine fm_range fun m hlt => ?_
    have e1 : ((xs.size : Int) - 1 + (m : Int) * -1).toNat = xs.size - 1 - m := by omega
    rw [e1]
    have h1 : xs.size - 1 - m < xs.size := by omega
    have h2 : m < xs.toList.reverse.length := by rw [List.length_reverse, Array.length_toList]; exact hlt
    rw [Array.getElem?_eq_getElem h1]
    show some xs[xs.size - 1 - m] = some (xs.toList.reverse[m]?.getD .none)
    rw [List.getElem?_eq_getElem h2, Option.getD_some, List.getElem_reverse]
    simp
  rw [e]
  congr 1
  refine List.ext_getElem? fun i => ?_
  rw [List.getElem?_map]
  by_cases hi : i < xs.size
  · have h2 : i < xs.toList.reverse.length := by rw [List.length_reverse, Array.length_toList]; exact hi
    rw [List.getElem?_range hi]
    show some (xs.toList.reverse[i]?.getD .none) = _
    rw [List.getElem?_eq_getElem h2, Option.getD_some]
  · rw [List.getElem?_eq_none (by rw [List.length_range]; omega), List.getElem?_eq_none (by rw [List.length_reverse, Array.length_toList]; omega)]
    rfl
theorem getItem_back {t sl : Addr} {items : Array Value} {vl vu vs : Value} {Q : Value → Shared → Prop} (ht : IsTup s.heap t items) (hs : s.heap.IsSliceOf sl vl vu vs) (pl : IsPart vl none) (pu : IsPart vu none) (ps : IsPart vs (some (-1)))
    (h : Q (.ref s.heap.objs.size) { s with heap := s.heap.push { cls := .type "tuple", data := .seq items.toList.reverse.toArray } }) (hsz : items.size ≤ sizeLine) : wpAny (model prog w) A (getItem (.ref t) (.ref sl)) Q E s := by
  obtain ⟨os, hos, hcs, hds⟩ := id hs
  have hTs : s.TypeIs (.ref sl) "slice" := ⟨os, hos, hcs⟩
  have hok : sizeOk (.seq items.toList.reverse.toArray) := by
    show items.toList.reverse.toArray.size ≤ sizeLine
    rw [List.size_toArray, List.length_reverse, Array.length_toList]
    exact hsz
  unfold getItem
  try with_reducible refine wpAny_holding ?_
  first | refine wpAny_bind (wpAny_pure ?_) | skip
  refine wpAny_bind (wpAny_sequenceKey ht.typeIs (by decide) ?_)
  refine wpAny_bind (wpAny_callSpecial?_slot (name := Str.ofString "__getitem__") ht.typeIs PyProof.Rows.slot_tuple_getitem
    (wpAny_call_entry PyProof.Rows.slot_tuple_getitem ht.typeIs PyProof.Rows.entry_tuple_getitem ?_ (PyProof.Rows.args_tuple_getitem _ _)))
  show wpAny _ _ (Builtin.Tuple.tupleItemsOf (.ref t) >>= _) _ _ s
  refine wpAny_bind (tupleItemsOf_ ht (wpAny_bind (wpAny_typeOf hTs ?_)))
  rw [if_pos (by decide)]
  refine wpAny_bind (cut_back hs pl pu ps ?_)
  have hno : ¬ ((((items.size : Int) - 1) == 0 && (-1 : Int) == 1 && items.size == items.size) = true) := by
    intro q
    rw [Bool.and_eq_true, Bool.and_eq_true] at q
    exact absurd q.1.2 (by decide)
  show wpAny _ _ (if (((items.size : Int) - 1) == 0 && (-1 : Int) == 1 && items.size == items.size) = true then _ else _) _ _ s
  rw [if_neg hno, pick_back]
  first
    | exact wpAny_bind (m := Builtin.Tuple.tupleExact _) (wpAny_newObj_type (wpAny_pure ⟨_, rfl, wpAny_pure h⟩) hok)
    | exact wpAny_bind (m := Builtin.Tuple.tupleExact _) (wpAny_newObj_type (wpAny_bind (wpAny_pure (wpAny_pure ⟨_, rfl, wpAny_pure h⟩))) hok)
    | exact wpAny_bind (wpAny_bind (m := Builtin.Tuple.tupleExact _) (wpAny_newObj_type (wpAny_pure (wpAny_pure ⟨_, rfl, wpAny_pure h⟩)) hok))
    | exact wpAny_bind (wpAny_bind (m := Builtin.Tuple.tupleExact _) (wpAny_newObj_type (wpAny_pure ⟨_, rfl, wpAny_pure h⟩) hok))
end
section
variable {X : Cx}
def tBackT (K : PySem.W.Frag) (te ts : TE) : TE := fun σ H Q => te σ H fun x H1 => ts σ H1 fun y H2 => ∃ i, y = .int i ∧ some i = some (-1 : Int) ∧ ∃ a xs, x = .ref a ∧ SqT K H2 a xs ∧ ∀ p, H2 p = none → Q (.ref p) (upd H2 p (.tup xs.reverse))
theorem pe_backT {e st : Expr} {te ts : TE} {p3 pos : Pos} (he : PE X e te) (hs : PE X st ts) (hty : ∀ v i, subscripted (.Slice none none (some st) p3) false v i = operate [v, i] (getItem v i) := by intro _ _; rfl) :
    PE X (.Subscript e (.Slice none none (some st) p3) pos) (tBackT X.K te ts) := by
  refine ⟨fun pins s σ H Q I h => ?_⟩
  refine Subscript_ (thn (he.run pins s σ H _ I h) fun v s1 ⟨x, H1, I1, r1, q1⟩ => ?_)
  refine wpAny_Slice (thn (po_none.run pins s1 σ H1 (fun o H2 => o = none ∧ H2 = H1) I1 ⟨rfl, rfl⟩) fun vl s2 ⟨l, H2, I2, pl, el, e2⟩ => ?_)
  subst el e2
  refine thn (po_none.run pins s2 σ H2 (fun o H3 => o = none ∧ H3 = H2) I2 ⟨rfl, rfl⟩) fun vu s3 ⟨u, H3, I3, pu, eu, e3⟩ => ?_
  subst eu e3
  refine thn ((po_some hs).run pins s3 σ H3 (fun o H4 => o = some (-1) ∧ ∃ a xs, x = .ref a ∧ SqT X.K H4 a xs ∧ ∀ p, H4 p = none → Q (.ref p) (upd H4 p (.tup xs.reverse))) I3 q1) fun vs s4 ⟨o, H4, I4, ps, eo, a, xs, ex, hx, q⟩ => ?_
  subst eo ex
  cases r1
  have I5 : Inv X pins σ H4 { s4 with heap := s4.heap.push { cls := .type "slice", data := .fields #[vl, vu, vs] } } := I4.kept (t' := s4.toks) fun b ob q => Heap.get?_push_of_some _ q
  obtain ⟨its, r, ht, hz⟩ := I5.tuple hx
  have hlen := r.length
  refine tail_any (ops := [.ref a, .ref s4.heap.objs.size]) ht.typeIs (PyProof.Rows.slot_tuple_getitem.lookup) ?_ (hty _ _)
  refine getItem_back ht (Heap.IsSliceOf.new _ vl vu vs) pl pu ps ?_ (by rw [List.size_toArray]; omega)
  refine ⟨.ref _, _, I5.laid (t' := s4.toks) (o := .tup xs.reverse) (fun b ob q => Heap.get?_push_of_some _ q) (Nat.le_refl _) ?_, rfl, q _ (I5.hok.fresh (Nat.le_refl _))⟩
  exact ⟨by rw [List.length_reverse]; exact hz, _, r.reverse, IsTup.new _ _⟩
end
end Ov



namespace Ov
open PySem PySem.Spec PyProof.Rows L2
/-! ### len(set(xs)) of any texts without twins -/
section
variable {prog : Program} {w : World} {A : Around}
/-- the set at a holds just these texts -/
abbrev HasTexts (prog : Program) (w : World) (h : Heap) (a : Addr) (ts : List Str) : Prop := h.SetOf (strKind prog w) a (fun t => decide (t ∈ ts)) ts.length
theorem has_moved {h h' : Heap} {a : Addr} {ts : List Str} (S : HasTexts prog w h a ts) (k : ∀ o, h.get? a = some o → h'.get? a = some o) : HasTexts prog w h' a ts := by
  obtain ⟨o, es, ep, tb, ho, r⟩ := S
  exact ⟨o, es, ep, tb, k o ho, r⟩
theorem has_more {h : Heap} {a : Addr} {ts : List Str} {t : Str} (no : t ∉ ts) (S : h.SetOf (strKind prog w) a (fun k => decide (k ∈ ts) || decide (k = t)) (if decide (t ∈ ts) = true then ts.length else ts.length + 1)) : HasTexts prog w h a (ts ++ [t]) := by
  refine SetOf_congr S (fun k => ?_) ?_
  · by_cases h1 : k ∈ ts <;> by_cases h2 : k = t <;> simp [h1, h2]
  · simp [no]
theorem take_new {ts : List Str} (nd : ts.Nodup) {i : Nat} {t : Str} (h : ts[i]? = some t) : t ∉ ts.take i ∧ ts.take (i + 1) = ts.take i ++ [t] := by
  have e : ts.take (i + 1) = ts.take i ++ [t] := by rw [List.take_add_one, h]; rfl
  refine ⟨fun z => ?_, e⟩
  have q : (ts.take (i + 1)).Nodup := nd.sublist (List.take_sublist _ _)
  rw [e] at q
  exact (List.nodup_append.mp q).2.2 t z t (List.mem_singleton.mpr rfl) rfl
/-- the loop of set.update over what yields these texts -/
theorem texts_in {I D : Addr} {fp wr : List Addr} {G : Array GenState → Array GenState → Prop} {ts : List Str} {Pv : Nat → Value → Prop} {St : Nat → Shared → Prop} {R : Result → Shared → Prop} (W : WalksS prog w A.in1 I fp wr G ts.length Pv St) (far : D ∉ fp) (nd : ts.Nodup) (few : ts.length < 4000)
    (val : ∀ i v, Pv i v → ∃ x t, ts[i]? = some x ∧ v = .str x t) (m : Nat) : ∀ (i : Nat) (s : Shared), m + i = ts.length → St i s → HasTexts prog w s.heap D (ts.take i) → (∀ s', Moved (D :: wr) G s s' → HasTexts prog w s'.heap D ts → R (.ok (.ret .none)) s') →
      codeAny (model prog w) A (.builtin "set.update.loop" ⟨[.ref D, .ref I], []⟩) R s := by
  have nw : D ∉ wr := fun z => far (W.sub _ z)
  induction m with
  | zero =>
    intro i s e st S k
    obtain rfl : i = ts.length := by omega
    rw [List.take_length] at S
    refine codeAny_builtin F.entry_set_update_loop ?_
    rw [Around.under_plainId F.plain_set_update_loop]
    refine wpAny_bind (m := pyNext (.ref I)) (W.done s _ _ st fun s1 mv => wpAny_pure ?_)
    exact k s1 (mv.mono fun b z => List.mem_cons_of_mem _ z) (has_moved S fun o => mv.heap D o nw)
  | succ m ih =>
    intro i s e st S k
    have lt : i < ts.length := by omega
    refine codeAny_builtin F.entry_set_update_loop ?_
    rw [Around.under_plainId F.plain_set_update_loop]
    refine wpAny_bind (m := pyNext (.ref I)) (W.item i s _ _ lt st fun v s1 pv st1 mv => ?_)
    obtain ⟨x, t, hx, rfl⟩ := val i v pv
    obtain ⟨no, grow⟩ := take_new nd hx
    have S1 : HasTexts prog w s1.heap D (ts.take i) := has_moved S fun o => mv.heap D o nw
    have room : (ts.take i).length + 1 < scanBound := by rw [List.length_take]; unfold scanBound; omega
    refine wpAny_bind (m := holding [Value.str x t] (setAdd D (.str x t))) (wpAny_holding ?_)
    unfold setAdd
    refine wpAny_holding (wpAny_bind ((strKind prog w).pyHash (k := x) (strKind_is _ _ _ _) ?_))
    refine wpAny_setAddHashed_of (s := { s1 with toks := s1.toks + 1 }) (strKind_is _ _ _ _) rfl S1 room fun h2 same S2 => ?_
    have S3 : HasTexts prog w h2 D (ts.take (i + 1)) := by rw [grow]; exact has_more no S2
    have st2 : St (i + 1) { s1 with heap := h2, toks := s1.toks + 1 } := W.frame _ s1 _ _ st1 (Nat.le_succ _) fun b hb o z => by rw [same.2 b fun y : b = D => far (y ▸ hb)]; exact z
    refine wpAny_pure ⟨plainId_quiet F.plain_set_update_loop _, ih (i + 1) _ (by omega) st2 S3 fun s4 mv4 S4 => k s4 ?_ S4⟩
    refine Moved.trans W.gtrans ((mv.mono fun b z => List.mem_cons_of_mem _ z).then_heap (Nat.le_succ _) fun b o nb z => ?_) mv4
    rw [same.2 b fun y : b = D => nb (y ▸ List.mem_cons_self)]
    exact z
theorem text_of {its : List Value} {ts : List Str} (r : StrsAre its ts) {i : Nat} {v : Value} (h : its.toArray[i]? = some v) : ∃ x t, ts[i]? = some x ∧ v = .str x t := by
  rw [List.getElem?_toArray] at h
  have lt : i < ts.length := by
    have := (List.getElem?_eq_some_iff.mp h).1
    rw [r.len_eq] at this
    exact this
  obtain ⟨t, e⟩ := r.at (List.getElem?_eq_getElem lt)
  rw [h] at e
  exact ⟨_, t, List.getElem?_eq_getElem lt, Option.some.inj e⟩
abbrev freshSet (led : Bool) : Obj := { cls := .type "set", dict := none, data := .set #[] 0 (.fresh 0 0 led) }
variable {E : Value → Shared → Prop} {s : Shared}
/-- what set(l) leaves -/
abbrev SetMade (prog : Program) (w : World) (s : Shared) (ts : List Str) (s2 : Shared) : Prop := ∃ h2 tk, s2 = { s with heap := h2, toks := tk } ∧ HasTexts prog w h2 s.heap.objs.size ts ∧ ∀ b o, b < s.heap.objs.size → s.heap.get? b = some o → h2.get? b = some o
theorem set_init {l : Addr} {its : List Value} {ts : List Str} {led : Bool} (hh : A.handled = none) (hl : s.heap.IsList l its.toArray ∨ s.heap.IsTuple l its.toArray) (r : StrsAre its ts) (nd : ts.Nodup) (few : ts.length < 4000) {Q : Fin → Shared → Prop}
    (k : ∀ s2, SetMade prog w s ts s2 → Q (.done (.ret .none)) s2) : wpAny (model prog w) A (Builtin.«set.__init__» ⟨[.ref s.heap.objs.size, .ref l], []⟩) Q E { s with heap := s.heap.push (freshSet led) } := by
  have hn : its.toArray.size = ts.length := by rw [List.size_toArray, r.len_eq]
  have new : (s.heap.push (freshSet led)).get? s.heap.objs.size = some (freshSet led) := Heap.get?_push_size _ rfl
  rcases hl with hl | hl
  all_goals
    have hlS : l < s.heap.objs.size := by obtain ⟨o, ho, _⟩ := hl; exact Heap.lt_size ho
    obtain ⟨⟨cl, dd, dt, sl⟩, hol, hcl, n, hdl⟩ := id hl
    simp only at hcl hdl
    subst hcl hdl
    have hol2 := Heap.get?_push_of_some (freshSet led) hol
    have hl1 := hl.push (freshSet led)
    have f1 := PySem.F.sub_list_set
    have f2 := PySem.F.sub_list_frozenset
    have f3 := PySem.F.sub_tuple_set
    have f4 := PySem.F.sub_tuple_frozenset
    have f5 : (Value.type "list" == Value.type "dict") = false := by decide
    have f6 : (Value.type "tuple" == Value.type "dict") = false := by decide
    unfold Builtin.«set.__init__» noKeywords Builtin.Frozenset.updateFrom
    generalize hPI : pyIter = PI
    wp_walk
    subst hPI
    have hq : A.in1.handled = none := by simp [hh]
    have sz : (s.heap.push (freshSet led)).objs.size = s.heap.objs.size + 1 := Heap.size_push _ _
    have ne : l ≠ (s.heap.push (freshSet led)).objs.size := by
      rw [sz]
      exact Nat.ne_of_lt (Nat.lt_succ_of_lt hlS)
    have far : s.heap.objs.size ∉ [(s.heap.push (freshSet led)).objs.size, l] := by
      rw [sz]
      intro z
      rcases List.mem_cons.mp z with z | z
      · exact Nat.ne_of_lt (Nat.lt_succ_self _) z
      · exact Nat.ne_of_gt hlS (List.mem_singleton.mp z)
    have empty : ∀ {o : Obj}, HasTexts prog w ((s.heap.push (freshSet led)).push o) s.heap.objs.size (ts.take 0) := fun {o} =>
      SetOf_congr ((setObjOf_fresh (knd := strKind prog w) led).setOf (Heap.get?_push_of_some o new) (by decide)) (fun _ => by simp) rfl
    have done : ∀ {o : Obj} (s2 : Shared), Moved (s.heap.objs.size :: [(s.heap.push (freshSet led)).objs.size]) (fun a b => b = a) { s with heap := (s.heap.push (freshSet led)).push o } s2 → HasTexts prog w s2.heap s.heap.objs.size ts → SetMade prog w s ts s2 := fun {o} s2 mv S => by
      obtain ⟨h2, g2, d2, tk, os2⟩ := s2
      obtain rfl : g2 = s.gens := mv.gens
      obtain rfl : d2 = s.drawn := mv.drawn
      obtain rfl : os2 = s.os := mv.os
      refine ⟨h2, tk, rfl, S, fun b u hb e => mv.heap b u (fun z => ?_) (Heap.get?_push_of_some _ (Heap.get?_push_of_some _ e))⟩
      rw [sz] at z
      rcases List.mem_cons.mp z with z | z
      · exact Nat.ne_of_lt hb z
      · exact Nat.ne_of_lt (Nat.lt_succ_of_lt hb) (List.mem_singleton.mp z)
    first
      | (refine wpAny_pyIter_list hl1 (wpAny_bind (wpAny_runValue ?_))
         have W := (Walks.list (prog := prog) (w := w) hq _ l ne its.toArray).toS
         rw [hn] at W
         refine texts_in W far nd few (fun i v pv => text_of r pv) ts.length 0 _ (by omega) ⟨⟨_, Heap.get?_push_size _ rfl, rfl, rfl⟩, hl1.push _⟩ empty fun s2 mv S => ?_)
      | (refine wpAny_pyIter_tuple hl1 (wpAny_bind (wpAny_runValue ?_))
         have W := (Walks.tuple (prog := prog) (w := w) hq _ l ne its.toArray).toS
         rw [hn] at W
         refine texts_in W far nd few (fun i v pv => text_of r pv) ts.length 0 _ (by omega) ⟨⟨_, Heap.get?_push_size _ rfl, rfl, rfl⟩, hl1.push _⟩ empty fun s2 mv S => ?_)
    exact wpAny_pure (wpAny_pure (k s2 (done s2 mv S)))
/-- set(l), l a list or a tuple of texts without twins -/
theorem set_of_texts {l : Addr} {its : List Value} {ts : List Str} {Q : Value → Shared → Prop} (hh : A.handled = none) (hl : s.heap.IsList l its.toArray ∨ s.heap.IsTuple l its.toArray) (r : StrsAre its ts) (nd : ts.Nodup) (few : ts.length < 4000)
    (k : ∀ s2, SetMade prog w s ts s2 → Q (.ref s.heap.objs.size) s2) : wpAny (model prog w) A (call (.type "set") [.ref l]) Q E s := by
  obtain ⟨top, tail, c4⟩ := PySem.F.called_set.mro
  have c := PySem.F.called_set
  have c1 := c.notType
  have c2 := c.canCreate
  have c5 := c.made
  have c6 := c.sub
  have c3 := PySem.F.typeCall_set_1 (.ref l)
  have c7 := c.init.lookup
  have c8 := c.init.bind (.ref s.heap.objs.size)
  refine wpAny_call (codeAny_of_tree (id (wpAny_pure ⟨Code.quiet_builtin _ (by decide +kernel), codeAny_builtin PySem.F.entry_type_call ?_⟩ : wpAny (model prog w) _ (callAny (.type "set") ⟨[.ref l], []⟩) _ _ s)))
  rw [Around.under_plain (c := Code.builtin "type.__call__" ⟨[.type "set", .ref l], []⟩) (weight_type_call_type _ _ _) rfl]
  repeat any_goals first | assumption | wp_step
  have fresh : ∀ led : Bool, (s.heap.push (freshSet led)).get? s.heap.objs.size = some (freshSet led) := fun led => Heap.get?_push_size _ rfl
  refine codeAny_mono (code_set_new_1 (E := E) (.ref l) (Q₁ := fun D s1 => ∃ led, D = .ref s.heap.objs.size ∧ s1 = { s with heap := s.heap.push (freshSet led) }) fun led => ⟨led, rfl, rfl⟩) ?_
  intro a s1 h1
  match a, h1 with
  | .error e, h1 => exact h1
  | .ok (.ret D), h1 =>
    obtain ⟨led, rfl, rfl⟩ := h1
    have isSet : Shared.TypeIs { s with heap := s.heap.push (freshSet led) } (.ref s.heap.objs.size) "set" := ⟨_, fresh led, rfl⟩
    repeat any_goals first | assumption | wp_step
    refine codeAny_mono (codeAny_call_builtin (R := wants (fun v s2 => v = .none ∧ SetMade prog w s ts s2) E) c.init.plain PySem.F.entry_set_init (check_set_init_1 isSet (set_init (by simp [hh]) hl r nd few fun s2 m => ⟨rfl, m⟩))) ?_
    intro a2 s2 h2
    match a2, h2 with
    | .error e, h2 => exact h2
    | .ok (.ret v), h2 =>
      obtain ⟨rfl, m⟩ := h2
      repeat any_goals first | assumption | wp_step
      exact k s2 m
end
def tLenSetG (K : PySem.W.Frag) (ta : TE) : TE := fun σ H Q => ta σ H fun x H1 => ∃ (l : Addr) (ts : List Str), x = .ref l ∧ (SqL K H1 l (ts.map V.str) ∨ SqT K H1 l (ts.map V.str)) ∧ ts.Nodup ∧ ts.length < 4000 ∧ Q (.int ts.length) H1
theorem texts_vals : ∀ {ts : List Str} {us : List Value}, Vals (ts.map V.str) us → StrsAre us ts
  | [], _, .nil => .nil
  | t :: ts, _, .cons ⟨k, h⟩ r => h ▸ .cons t k (texts_vals r)
theorem pe_lenSetG {X : Cx} {a : Expr} {ta : TE} {p p2 q pos : Pos} (calm : X.calm = true) (gl : Gl X "len") (ml : X.mg "len" = none) (gs : Gl X "set") (ms : X.mg "set" = none) (h : PE X a ta)
    (one : starEach [a] X.env = (false, eval a X.env) :: starEach [] X.env := by rfl) : PE X (.Call (.Name "len" p) [.Call (.Name "set" p2) [a] [] q] [] pos) (tLenSetG X.K ta) := by
  refine ⟨fun pins s σ H Q I hw => ?_⟩
  refine Call_ (ld_blt I gl ml boot_len (callWith_builtin1 (args_cons ?_ rfl) rfl rfl))
  refine Call_ (ld_blt I gs ms boot_set (callWith_type1 (args_cons (thn (h.run pins s σ H _ I hw) fun v s1 ⟨x, H1, I1, r1, q1⟩ => args_nil ?_) one) one rfl))
  obtain ⟨l, ts, rfl, sq, nd, few, q1⟩ := q1
  cases r1
  obtain ⟨its, r, at1⟩ : ∃ its : List Value, Vals (ts.map V.str) its ∧ (s1.heap.IsList l its.toArray ∨ s1.heap.IsTuple l its.toArray) := by
    rcases sq with sq | sq
    · obtain ⟨its, r, pl, _⟩ := I1.list sq
      exact ⟨its, r, .inl pl.isList⟩
    · obtain ⟨its, r, pl, _⟩ := I1.tuple sq
      exact ⟨its, r, .inr pl⟩
  refine set_of_texts (I1.ok.hd calm) at1 (texts_vals r) nd few fun s2 ⟨h2, tk, e, ⟨o, es, ep, tb, ho, ex, hd, _, _, _, fit, n⟩, keep⟩ => ?_
  subst e
  have I2 : Inv X pins σ H1 { s1 with heap := h2, toks := tk } := I1.kept fun b u z => keep b u (Heap.lt_size z) z
  exact args_nil (call_len_set ho ex hd fit (by rw [n]; omega) ⟨.int ts.length, H1, I2.tok _, ⟨_, by rw [n]⟩, q1⟩)
end Ov


namespace Ov
open PySem PySem.Spec PyProof.Rows L2
open Evl (pss_cut tCut)

/-! ### the text by places -/
theorem scDeal : FnScope ["_law_script", "_law_base", "_law_cell", "_law_cells", "_law_mixed_here"] ["_law_script", "_law_base"] (defScope sDeal) := ⟨rfl, rfl, rfl, by decide +kernel, rfl, by decide +kernel, by decide +kernel⟩
theorem scDraw : FnScope ["_law_deal_here", "_law_many", "_law_left"] ["_law_deal_here", "_law_many"] (defScope sDraw) := ⟨rfl, rfl, rfl, by decide +kernel, rfl, by decide +kernel, by decide +kernel⟩

/-! ### heaps: all but two places stays -/
def Kp (a b : Addr) (H H' : Hp) : Prop := ∀ x o, x ≠ a → x ≠ b → H x = some o → H' x = some o
theorem Kp.refl (a b : Addr) (H : Hp) : Kp a b H H := fun _ _ _ _ h => h
theorem Kp.trans {a b : Addr} {H H1 H2 : Hp} (x : Kp a b H H1) (y : Kp a b H1 H2) : Kp a b H H2 := fun c o h1 h2 h => y c o h1 h2 (x c o h1 h2 h)
theorem Kp.at_a {a b : Addr} {H : Hp} {o : HO} : Kp a b H (upd H a o) := fun c u h1 _ h => by rw [upd_ne h1]; exact h
theorem Kp.at_b {a b : Addr} {H : Hp} {o : HO} : Kp a b H (upd H b o) := fun c u _ h2 h => by rw [upd_ne h2]; exact h
theorem Kp.new {a b : Addr} {H : Hp} {p : Addr} {o : HO} (h : H p = none) : Kp a b H (upd H p o) := fun c u _ _ e => by rw [upd_ne (ne_of_none e h)]; exact e
theorem Kp.same {a b : Addr} {H H' : Hp} (h : Same H H') : Kp a b H H' := fun c u _ _ e => h c u e

/-! ### a deal: its great cells, its mixed number -/
structure Deal (H : Hp) (a b : Addr) : Prop where
  ex : ∃ (ns : List Int) (m : Int), H a = some (.lst [.ref b, .int m]) ∧ H b = some (.lst (ns.map V.int)) ∧ ns.length ≤ 63 ∧ 0 ≤ m ∧ m < 2147483647
theorem Deal.ne {H : Hp} {a b : Addr} (D : Deal H a b) : a ≠ b := by
  obtain ⟨ns, m, h1, h2, _⟩ := D.ex
  refine ne_of h1 h2 fun z => ?_
  cases ns with
  | nil => cases z
  | cons n r => cases z
theorem Deal.is {H : Hp} {a b : Addr} (D : Deal H a b) : (H a ≠ none) ∧ (H b ≠ none) := by
  obtain ⟨ns, m, h1, h2, _⟩ := D.ex
  exact ⟨by rw [h1]; exact fun z => (by cases z), by rw [h2]; exact fun z => (by cases z)⟩
theorem Deal.nea {H : Hp} {a b p : Addr} (D : Deal H a b) (h : H p = none) : p ≠ a := fun z => D.is.1 (by rw [← z]; exact h)
theorem Deal.neb {H : Hp} {a b p : Addr} (D : Deal H a b) (h : H p = none) : p ≠ b := fun z => D.is.2 (by rw [← z]; exact h)
theorem Deal.new {H : Hp} {a b p : Addr} {o : HO} (D : Deal H a b) (h : H p = none) : Deal (upd H p o) a b := by
  have na := D.nea h
  have nb := D.neb h
  obtain ⟨ns, m, h1, h2, r⟩ := D.ex
  exact ⟨ns, m, by rw [upd_ne na.symm]; exact h1, by rw [upd_ne nb.symm]; exact h2, r⟩
theorem Deal.keep {H H' : Hp} {a b : Addr} (D : Deal H a b) (s : Same H H') : Deal H' a b := by
  obtain ⟨ns, m, h1, h2, r⟩ := D.ex
  exact ⟨ns, m, s _ _ h1, s _ _ h2, r⟩
/-- a new object behind a drawing is new before it -/
theorem Kp.none {H H' : Hp} {a b p : Addr} (k : Kp a b H H') (D : Deal H' a b) (h : H' p = none) : H p = none := by
  cases e : H p with
  | none => rfl
  | some o =>
    have q := k p o (D.nea h) (D.neb h) e
    rw [h] at q
    cases q

theorem same_upd {H : Hp} {p : Addr} {o : HO} (h : H p = none) : Same H (upd H p o) := fun b x e => by
  rw [upd_ne (ne_of_none e h)]
  exact e
/-- a place that wasn't tracked may be written again -/
theorem _root_.L2.Same.put {H H' : Hp} {p : Addr} {o : HO} (s : Same H H') (h : H p = none) : Same H (upd H' p o) := fun b x e => by
  rw [upd_ne (ne_of_none e h)]
  exact s b x e
theorem get_ints {ns : List Int} {i : Nat} {x : V} (h : (ns.map V.int)[i]? = some x) : ∃ n, x = .int n := by
  rw [List.getElem?_map] at h
  cases e : ns[i]? with
  | none =>
    rw [e] at h
    cases h
  | some n =>
    rw [e] at h
    exact ⟨n, (Option.some.inj h).symm⟩
theorem cut_ints (ns : List Int) (lo hi : Option Int) : ∃ cs : List Int, cutV (ns.map V.int) lo hi = cs.map V.int ∧ cs.length ≤ ns.length := by
  refine ⟨(ns.drop (HT.sIx ns.length 0 lo)).take (HT.sIx ns.length ns.length hi - HT.sIx ns.length 0 lo), ?_, ?_⟩
  · unfold cutV
    rw [List.length_map, ← List.map_drop, ← List.map_take]
  · rw [List.length_take, List.length_drop]
    omega
theorem fmod_lt {x k : Int} (h : 0 < k) : 0 ≤ x.fmod k ∧ x.fmod k < k := by
  rw [Int.fmod_eq_emod_of_nonneg x (Int.le_of_lt h)]
  exact ⟨Int.emod_nonneg x (by omega), Int.emod_lt_of_pos x h⟩

def spDraw : Sp := fun vs H Q _ => ∃ (a b : Addr) (k : Int), vs = [.ref a, .int k] ∧ Deal H a b ∧ 0 < k ∧ k < 1000000 ∧
  ∀ r H', 0 ≤ r → r < k → Kp a b H H' → Deal H' a b → Q (.int r) H'

section
variable {P : Program} {w : World} {K : PySem.W.Frag} {mg : Str → Option Value} {base : Heap}
theorem dp_ints {K : PySem.W.Frag} {H : Hp} : ∀ ns : List Int, DpAll K H (ns.map V.int) (ns.map PyData.int)
  | [] => .nil
  | n :: r => .cons (.int n) (dp_ints r)
theorem canLay_ints : ∀ ns : List Int, PyData.canLayAll0 (ns.map PyData.int) = true
  | [] => rfl
  | n :: r => by
    show (PyData.canLay0 (.int n) && PyData.canLayAll0 (r.map PyData.int)) = true
    rw [canLay_ints r]
    rfl
theorem depth_ints : ∀ ns : List Int, PyData.depthAll (ns.map PyData.int) = 0
  | [] => rfl
  | n :: r => by
    show max (PyData.depth (.int n)) (PyData.depthAll (r.map PyData.int)) = 0
    rw [depth_ints r]
    rfl
theorem shaped_ints (ns : List Int) : SeqAt.shaped (.list (ns.map PyData.int)) = true := by
  show (PyData.canLay0 (.list (ns.map PyData.int)) && decide ((PyData.list (ns.map PyData.int)).depth ≤ 64)) = true
  have h1 : PyData.canLay0 (.list (ns.map PyData.int)) = true := canLay_ints ns
  have h2 : (PyData.list (ns.map PyData.int)).depth = 0 + 1 := by
    show PyData.depthAll (ns.map PyData.int) + 1 = 0 + 1
    rw [depth_ints]
  rw [h1, h2]
  rfl
theorem eqv_nil (ns : List Int) : PyData.eqv (.list (ns.map PyData.int)) (.list []) = ns.isEmpty := by
  cases ns with
  | nil => rfl
  | cons n r => rfl
theorem atI_lastInt (ns : List Int) (n : Int) : atI ((ns ++ [n]).map V.int) (-1) = some (.int n) := by
  rw [List.map_append]
  exact atI_last _ _
theorem ok_draw {f : Addr} {fd : FuncData} (F : Fun K "_law_draw" "_law_draw" sDraw f fd) (nInt : mg "int" = none) : FnOk P w K mg base CX0 1 f fd ["_law_deal_here", "_law_many"] spDraw := by
  refine F.ok scDraw (fun vs H Q E h => ?_) (fun cdv A outer s H vs Q E hr h => ?_)
  · obtain ⟨a, b, k, rfl, _⟩ := h
    rfl
  · obtain ⟨a, b, k, rfl, D, k0, k1, q⟩ := h
    refine ⟨_, pss_cut (ps_while PassesOwn.never (PW.pt (pw_and (pt_cmpR (op_neD hr.units) (pe_ix ix_list (pv 0) pe_int (fun _ _ => rfl)) (pe_lst pa_nil) (nomark _)) (pw_and1 (pt_cmpR op_eq (pe_ix ix_list (pe_ix ix_list (pv 0) pe_int (fun _ _ => rfl)) (pe_un un_neg pe_int) (fun _ _ => rfl)) pe_int (nomark _))))) (pss_one (ps_expr (pe_bm0 PySem.F.plainAttrs_list PySem.F.slot_list_pop PySem.F.type_list_pop mt_pop (pe_ix ix_list (pv 0) pe_int (fun _ _ => rfl))))))
      (pss_cons (ps_if (pt_cmpR (op_neD hr.units) (pe_ix ix_list (pv 0) pe_int (fun _ _ => rfl)) (pe_lst pa_nil) (nomark _)) (pss_cons (ps_set (i := 2) scDraw.nd rfl (.inl rfl) (pe_bm0 PySem.F.plainAttrs_list PySem.F.slot_list_pop PySem.F.type_list_pop mt_pop (pe_ix ix_list (pv 0) pe_int (fun _ _ => rfl))))
      (pss_cons (ps_expr (pe_bm PySem.F.plainAttrs_list PySem.F.slot_list_append PySem.F.type_list_append mt_append (pe_ix ix_list (pv 0) pe_int (fun _ _ => rfl)) (pa_cons (pe_op op_fdivN (pv 2) (pv 1)) pa_nil)))
      (pss_one (ps_ret (pe_op op_modN (pe_callTy call_int1 (by rfl) nInt (by decide +kernel) (pa_cons (pv 2) pa_nil)) (pv 1)))))) pss_nil)
      (pss_cons (ps_asg (pe_op op_modN (pe_callTy call_int1 (by rfl) nInt (by decide +kernel) (pa_cons (pe_op op_add (pe_op op_mul (pe_ix ix_list (pv 0) pe_int (fun _ _ => rfl)) pe_int) pe_int) pa_nil)) pe_int) (pg_sub (pv 0) pe_int set_list))
      (pss_one (ps_ret (pe_op op_modN (pe_callTy call_int1 (by rfl) nInt (by decide +kernel) (pa_cons (pe_op op_fdivN (pe_ix ix_list (pv 0) pe_int (fun _ _ => rfl)) pe_int) pa_nil)) (pv 1)))))), ?_⟩
    refine ⟨fun σ H' => σ = [some (.ref a), some (.int k), none] ∧ Kp a b H H' ∧ Deal H' a b, ?_, ?_⟩
    -- the while: zeros at the end are dropped
    · refine ⟨fun m σ H' => ∃ (ns : List Int) (mm : Int), σ = [some (.ref a), some (.int k), none] ∧ m = ns.length ∧ Kp a b H H' ∧ H' a = some (.lst [.ref b, .int mm]) ∧ H' b = some (.lst (ns.map V.int)) ∧ ns.length ≤ 63 ∧ 0 ≤ mm ∧ mm < 2147483647,
        ?_, ?_⟩
      · obtain ⟨ns, mm, h1, h2, h3, h4, h5⟩ := D.ex
        exact ⟨ns.length, ns, mm, rfl, rfl, Kp.refl _ _ _, h1, h2, h3, h4, h5⟩
      · rintro m σ H1 ⟨ns, mm, rfl, rfl, kp, h1, h2, h3, h4, h5⟩
        refine ⟨_, rfl, _, _, _, _, rfl, rfl, SqL.of h1, rfl, Nat.zero_le _, fun p np => ?_⟩
        have nb : b ≠ p := ne_of_none h2 np
        have na : a ≠ p := ne_of_none h1 np
        refine ⟨_, .list [], .lst (SqL.of (by rw [upd_ne nb]; exact h2)) (dp_ints ns), .lst (SqL.of upd_same) .nil, shaped_ints ns, shaped_ints [], _, rfl, ?_⟩
        rw [eqv_nil]
        have kp2 : Kp a b H (upd H1 p (.lst [])) := kp.trans (Kp.new np)
        have a2 : (upd H1 p (.lst [])) a = some (.lst [.ref b, .int mm]) := by rw [upd_ne na]; exact h1
        have b2 : (upd H1 p (.lst [])) b = some (.lst (ns.map V.int)) := by rw [upd_ne nb]; exact h2
        rcases List.eq_nil_or_concat ns with rfl | ⟨ns', n, rfl⟩
        · exact iteF (iteF ⟨rfl, kp2, ⟨[], mm, a2, b2, h3, h4, h5⟩⟩)
        · rw [List.concat_eq_append] at b2 h3 ⊢
          rw [show (ns' ++ [n]).isEmpty = false by simp]
          refine iteT ?_
          refine ⟨_, rfl, _, _, _, _, rfl, rfl, SqL.of a2, rfl, 1, rfl, _, _, _, _, rfl, rfl, SqL.of b2, atI_lastInt ns' n, rfl, _, rfl, ?_⟩
          refine ite2 (fun _ => ?_) (fun _ => ?_)
          · refine ⟨fun σ H' => ∃ (mm : Int), σ = [some (.ref a), some (.int k), none] ∧ Kp a b H H' ∧ H' a = some (.lst [.ref b, .int mm]) ∧ H' b = some (.lst (ns'.map V.int)) ∧ ns'.length ≤ 63 ∧ 0 ≤ mm ∧ mm < 2147483647,
              fun σ' H' ⟨mm, e1, e2, e3, e4, e5, e6⟩ => ⟨ns'.length, by simp, ns', mm, e1, rfl, e2, e3, e4, e5, e6⟩, ?_⟩
            refine ⟨_, rfl, _, _, _, _, rfl, rfl, SqL.of a2, rfl, .inl ⟨rfl, _, SqL.of b2⟩, b, _, .int n, rfl, rfl, b2, ?_, ?_⟩
            · rw [List.map_append, List.length_append]
              show (List.map V.int ns' ++ [V.int n])[(List.map V.int ns').length + 1 - 1]? = some (V.int n)
              simp
            · refine ⟨mm, rfl, kp2.trans Kp.at_b, ?_, ?_, ?_, h4, h5⟩
              · rw [upd_ne D.ne]
                exact a2
              · rw [upd_same, List.map_append]
                show some (HO.lst (List.map V.int ns' ++ [V.int n]).dropLast) = _
                rw [List.dropLast_concat]
              · rw [List.length_append, List.length_singleton] at h3
                omega
          · exact ⟨rfl, kp2, ⟨ns' ++ [n], mm, a2, b2, h3, h4, h5⟩⟩
    · rintro σ H1 ⟨rfl, kp, D1⟩
      obtain ⟨ns, mm, h1, h2, h3, h4, h5⟩ := D1.ex
      -- if deal[0] != []
      refine ⟨_, rfl, _, _, _, _, rfl, rfl, SqL.of h1, rfl, Nat.zero_le _, fun p np => ?_⟩
      have nb : b ≠ p := ne_of_none h2 np
      have na : a ≠ p := ne_of_none h1 np
      refine ⟨_, .list [], .lst (SqL.of (by rw [upd_ne nb]; exact h2)) (dp_ints ns), .lst (SqL.of upd_same) .nil, shaped_ints ns, shaped_ints [], _, rfl, ?_⟩
      rw [eqv_nil]
      have kp2 : Kp a b H (upd H1 p (.lst [])) := kp.trans (Kp.new np)
      have a2 : (upd H1 p (.lst [])) a = some (.lst [.ref b, .int mm]) := by rw [upd_ne na]; exact h1
      have b2 : (upd H1 p (.lst [])) b = some (.lst (ns.map V.int)) := by rw [upd_ne nb]; exact h2
      rcases List.eq_nil_or_concat ns with rfl | ⟨ns', n, rfl⟩
      · refine iteF ?_
        -- deal[1] = int(deal[1] * 69621 + 40961) % 2147483647
        refine ⟨_, rfl, _, _, _, _, rfl, rfl, SqL.of a2, rfl, _, _, rfl, rfl, .inl (by omega), _, _, rfl, rfl, .inl ⟨_, rfl, _, _, rfl, rfl, (by show (2147483647 : Int) ≠ 0; decide), ?_⟩⟩
        refine ⟨_, rfl, a, _, 1, 1, rfl, rfl, a2, rfl, ?_⟩
        -- return int(deal[1] // 16) % many
        obtain ⟨m0, m1⟩ := fmod_lt (x := mm * 69621 + 40961) (k := 2147483647) (by decide)
        refine ⟨_, rfl, _, _, _, _, rfl, rfl, SqL.of upd_same, rfl, _, _, rfl, rfl, ⟨by show (16 : Int) ≠ 0; decide, by show (16 : Int).natAbs < 1073741824; decide⟩, .inl ⟨_, rfl, _, rfl, _, _, rfl, rfl, by omega, ?_⟩⟩
        obtain ⟨r0, r1⟩ := fmod_lt (x := ((mm * 69621 + 40961).fmod 2147483647).fdiv 16) k0
        exact q _ _ r0 r1 (kp2.trans Kp.at_a) ⟨[], _, upd_same, by rw [upd_ne D.ne.symm]; exact b2, h3, m0, m1⟩
      · rw [List.concat_eq_append] at b2 h3 ⊢
        rw [show (ns' ++ [n]).isEmpty = false by simp]
        refine iteT ?_
        refine ⟨_, rfl, _, _, _, _, rfl, rfl, SqL.of a2, rfl, .inl ⟨rfl, _, SqL.of b2⟩, b, _, .int n, rfl, rfl, b2, ?_, ?_⟩
        · rw [List.map_append, List.length_append]
          show (List.map V.int ns' ++ [V.int n])[(List.map V.int ns').length + 1 - 1]? = some (V.int n)
          simp
        · have b3 : upd (upd H1 p (.lst [])) b (.lst (List.map V.int (ns' ++ [n])).dropLast) = upd (upd H1 p (.lst [])) b (.lst (ns'.map V.int)) := by
            rw [List.map_append]
            show upd _ b (.lst (List.map V.int ns' ++ [V.int n]).dropLast) = _
            rw [List.dropLast_concat]
          rw [b3]
          have a3 : (upd (upd H1 p (.lst [])) b (.lst (ns'.map V.int))) a = some (.lst [.ref b, .int mm]) := by rw [upd_ne D.ne]; exact a2
          refine ⟨_, rfl, _, _, _, _, rfl, rfl, SqL.of a3, rfl, .inl ⟨rfl, _, SqL.of upd_same⟩, _, rfl, _, rfl, _, _, rfl, rfl, ⟨by omega, by omega⟩, b, _, _, rfl, rfl, upd_same, ?_, ?_⟩
          · rw [List.length_map]
            rw [List.length_append, List.length_singleton] at h3
            exact small1000 (by omega)
          · refine ⟨_, rfl, .inl ⟨_, rfl, _, rfl, _, _, rfl, rfl, by omega, ?_⟩⟩
            obtain ⟨r0, r1⟩ := fmod_lt (x := n) k0
            refine q _ _ r0 r1 ((kp2.trans Kp.at_b).trans Kp.at_b) ⟨ns' ++ [n.fdiv k], mm, ?_, ?_, ?_, h4, h5⟩
            · rw [upd_ne D.ne]
              exact a3
            · rw [upd_same, List.map_append]
              rfl
            · rw [List.length_append] at h3 ⊢
              exact h3

/-! ### _law_deal -/
structure TxB (mg : Str → Option Value) : Prop where
  n_int : mg "int" = none
  n_abs : mg "abs" = none
  n_len : mg "len" = none
  n_range : mg "range" = none
  n_max : mg "max" = none
  n_min : mg "min" = none
  n_list : mg "list" = none
  n_tuple : mg "tuple" = none
def spDeal (K : PySem.W.Frag) : Sp := fun vs H Q _ => ∃ (s : Addr) (ns : List Int) (k : Nat), vs = [.ref s, .int (k : Int)] ∧ SqL K H s (ns.map V.int) ∧ ns.length ≤ 63 ∧ k ≤ 60 ∧
  ∀ (a b : Addr) (H' : Hp), Same H H' → H a = none → H b = none → Deal H' a b → Q (.ref a) H'
theorem ok_deal {f : Addr} {fd : FuncData} (F : Fun K "_law_deal" "_law_deal" sDeal f fd) (T : TxB mg) : FnOk P w K mg base CX0 1 f fd ["_law_script", "_law_base"] (spDeal K) := by
  refine F.ok scDeal (fun vs H Q E h => ?_) (fun cdv A outer s H vs Q E hr h => ?_)
  · obtain ⟨a, ns, k, rfl, _⟩ := h
    rfl
  · obtain ⟨sa, ns, k, rfl, hS, hlen, hk, q⟩ := h
    refine ⟨_, pss_cons (ps_setLc (i := 3) (own := [("_law_cell", 2)]) (g := gName 2) (tt := tYes) rfl scDeal.nd rfl rfl (sw_true rfl rfl rfl (by decide +kernel)) (pi_list (pe_slice sl_list (pv 0) (po_some (pv 1)) (po_some pe_int))) (blkOk_by (own := [("_law_cell", 2)]) (N := ["_law_script", "_law_base", "_law_cell", "_law_cells", "_law_mixed_here"]) (sc := defScope sDeal) (by decide +kernel)) (fun _ _ _ _ _ => (pg_name (i := 2) scDeal.nd rfl (Or.inl rfl))) (fun _ _ _ _ _ => pts_nil) (fun _ _ _ _ _ => (pe_callB call_abs (by rfl) T.n_abs (by decide +kernel) (pa_cons (pv 2) pa_nil))))
      (pss_cons (ps_set (i := 4) scDeal.nd rfl (.inl rfl) (pe_op op_add pe_int (pe_op op_mul pe_int (pv 1))))
      (pss_cut (ps_for PassesOwn.never rfl (pi_list (pv 3)) (pg_name (i := 2) scDeal.nd rfl (Or.inl rfl)) (pss_one (ps_set (i := 4) scDeal.nd rfl (.inl rfl) (pe_op op_modN (pe_callTy call_int1 (by rfl) T.n_int (by decide +kernel) (pa_cons (pe_op op_add (pe_op op_mul (pv 4) pe_int) (pe_op op_modN (pe_callTy call_int1 (by rfl) T.n_int (by decide +kernel) (pa_cons (pv 2) pa_nil)) pe_int)) pa_nil)) pe_int))))
      (pss_one (ps_ret (pe_lst (pa_cons (pe_revL (pe_lc (own := [("_law_cell", 2)]) (g := gName 2) rfl scDeal.nd (pi_list (pv 3)) (blkOk_by (own := [("_law_cell", 2)]) (N := ["_law_script", "_law_base", "_law_cell", "_law_cells", "_law_mixed_here"]) (sc := defScope sDeal) (by decide +kernel)) (fun _ _ _ _ _ => (pg_name (i := 2) scDeal.nd rfl (Or.inl rfl))) (fun _ _ _ _ _ => (pts_one (pt_cmpR op_ge (pv 2) (pe_op op_pow pe_int pe_int) (nomark _)))) (fun _ _ _ _ _ => (pv 2)))) (pa_cons (pv 4) pa_nil))))))), ?_⟩
    obtain ⟨cs, ec, lc⟩ := cut_ints ns (some (k : Int)) (some 63)
    refine ⟨_, rfl, _, rfl, _, rfl, _, rfl, sa, _, rfl, hS, fun p np => ⟨p, rfl, ⟨_, SqL.of upd_same⟩, fun L nL => ?_⟩⟩
    rw [ec] at nL ⊢
    have sp : Same H (upd H p (.lst (cs.map V.int))) := same_upd np
    refine lc_list (xs := cs.map V.int) (fun i H' => Same (upd H p (.lst (cs.map V.int))) H' ∧ ∃ ds : List Int, ds.length = i ∧ H' L = some (.lst (ds.map V.int)))
      ⟨same_upd nL, [], rfl, upd_same⟩ (fun i H' _ h => SqL.of (h.1 _ _ upd_same)) (fun i x H' hx h => ?_) (fun H1 h1 => ?_)
    · obtain ⟨n, rfl⟩ := get_ints hx
      obtain ⟨sm, ds, dl, hd⟩ := h
      refine ⟨rfl, _, rfl, n, rfl, _, hd, ?_, ?_, ds ++ [if n < 0 then -n else n], ?_, ?_⟩
      · have := (List.getElem?_eq_some_iff.mp hx).1
        rw [List.length_map] at this ⊢
        exact small1000 (by omega)
      · exact sm.put nL
      · rw [List.length_append, dl]
        rfl
      · rw [upd_same, List.map_append]
        rfl
    · obtain ⟨sm, ds, dl, hd⟩ := h1
      rw [List.length_map] at dl
      have sH : Same H H1 := sp.trans sm
      -- 16127 + 7919 * base
      refine ⟨_, rfl, _, _, rfl, rfl, .inl (by omega), _, _, rfl, rfl, ?_⟩
      refine ⟨fun σ H2 => ∃ (v : Option V) (m : Int), σ = [some (.ref sa), some (.int (k : Int)), v, some (.ref L), some (.int m)] ∧ 0 ≤ m ∧ m < 2147483647 ∧ H2 = H1, ?_, ?_⟩
      · refine ⟨.ref L, rfl, L, rfl, ⟨_, SqL.of hd⟩, for_list (K := K) (a := L) (xs := ds.map V.int) (fun i σ H2 => ∃ (v : Option V) (m : Int), σ = [some (.ref sa), some (.int (k : Int)), v, some (.ref L), some (.int m)] ∧ 0 ≤ m ∧ m < 2147483647 ∧ H2 = H1)
          ⟨_, _, rfl, by omega, by omega, rfl⟩ (fun i σ H2 _ ⟨_, _, _, _, _, e⟩ => by rw [e]; exact SqL.of hd) ?_ ?_⟩
        · rintro i x σ H2 hx ⟨v, m, rfl, m0, m1, rfl⟩
          obtain ⟨n, rfl⟩ := get_ints hx
          obtain ⟨r0, r1⟩ := fmod_lt (x := n) (k := 2147483629) (by decide)
          refine ⟨_, rfl, _, _, rfl, rfl, .inl (by omega), _, rfl, .inl ⟨_, rfl, _, _, rfl, rfl, (by show (2147483629 : Int) ≠ 0; decide), _, _, rfl, rfl, .inl ⟨_, rfl, _, _, rfl, rfl, (by show (2147483647 : Int) ≠ 0; decide), ?_⟩⟩⟩
          obtain ⟨t0, t1⟩ := fmod_lt (x := m * 48271 + n.fmod 2147483629) (k := 2147483647) (by decide)
          exact ⟨_, _, rfl, t0, t1, rfl⟩
        · rintro σ H2 ⟨v, m, rfl, m0, m1, rfl⟩
          exact ⟨_, _, rfl, m0, m1, rfl⟩
      · rintro σ H2 ⟨v, m, rfl, m0, m1, rfl⟩
        refine ⟨.ref L, rfl, L, rfl, ⟨_, SqL.of hd⟩, fun D nD => ?_⟩
        refine lc_list (xs := ds.map V.int) (fun i H' => Same H2 H' ∧ ∃ es : List Int, es.length ≤ i ∧ H' D = some (.lst (es.map V.int)))
          ⟨same_upd nD, [], Nat.le_refl _, upd_same⟩ (fun i H' _ h => SqL.of (h.1 _ _ hd)) (fun i x H' hx h => ?_) (fun H3 h3 => ?_)
        · obtain ⟨n, rfl⟩ := get_ints hx
          obtain ⟨sm3, es, el, he⟩ := h
          have hi := (List.getElem?_eq_some_iff.mp hx).1
          rw [List.length_map] at hi
          refine ⟨rfl, _, rfl, _, _, rfl, rfl, ⟨by decide, by decide, by decide⟩, _, _, rfl, rfl, _, rfl, ite2 (fun _ => ?_) (fun _ => ?_)⟩
          · refine ⟨_, rfl, _, he, ?_, sm3.put nD, es ++ [n], ?_, ?_⟩
            · rw [List.length_map]
              exact small1000 (by omega)
            · rw [List.length_append]
              exact Nat.succ_le_succ el
            · rw [upd_same, List.map_append]
              rfl
          · exact ⟨sm3, es, by omega, he⟩
        · obtain ⟨sm3, es, el, he⟩ := h3
          rw [List.length_map] at el
          have s3 : Same H H3 := sH.trans sm3
          refine ⟨D, _, rfl, SqL.of he, fun b nb => ⟨_, rfl, (by show 2 ≤ sizeLine; decide), fun a na => ?_⟩⟩
          have sb : Same H (upd H3 b (.lst (es.map V.int).reverse)) := s3.trans (same_upd nb)
          have nab : b ≠ a := fun z => by
            rw [← z, upd_same] at na
            cases na
          refine q a b _ (sb.trans (same_upd na)) (sb.free na) (s3.free nb) ⟨es.reverse, m, upd_same, ?_, ?_, m0, m1⟩
          · rw [upd_ne nab, upd_same, List.map_reverse]
          · rw [List.length_reverse]
            omega
end
end Ov


namespace Ov
open PySem PySem.Spec PyProof.Rows L2
open Evl (pss_cut tCut)

/-- a def of the text: where it stands, its name, how its arguments bind -/
structure Df (K : PySem.W.Frag) (mg : Str → Option Value) (x : Str) (st : Stmt) (ps : List Str) (f : Addr) (fd : FuncData) : Prop where
  F : Fun K x x st f fd
  g : mg x = some (.ref f)
  b : Binds K fd ps []

/-! ### what stands apart from a deal -/
theorem Kp.put {a b : Addr} {H H' : Hp} {p : Addr} {o : HO} (k : Kp a b H H') (h : H p = Option.none) : Kp a b H (upd H' p o) := fun c u h1 h2 e => by
  rw [upd_ne (ne_of_none e h)]
  exact k c u h1 h2 e
theorem Kp.sqL {K : PySem.W.Frag} {a b : Addr} {H H' : Hp} {l : Addr} {xs : List V} (k : Kp a b H H') (h1 : l ≠ a) (h2 : l ≠ b) (h : SqL K H l xs) : SqL K H' l xs := by
  rcases h with (h | ⟨o, h⟩) | h
  · exact .inl (.inl (k _ _ h1 h2 h))
  · exact .inl (.inr ⟨o, k _ _ h1 h2 h⟩)
  · exact .inr h
theorem Kp.sqT {K : PySem.W.Frag} {a b : Addr} {H H' : Hp} {l : Addr} {xs : List V} (k : Kp a b H H') (h1 : l ≠ a) (h2 : l ≠ b) (h : SqT K H l xs) : SqT K H' l xs := by
  rcases h with (h | ⟨o, h⟩) | h
  · exact .inl (.inl (k _ _ h1 h2 h))
  · exact .inl (.inr ⟨o, k _ _ h1 h2 h⟩)
  · exact .inr h
theorem Deal.netup {H : Hp} {a b p : Addr} {xs : List V} (D : Deal H a b) (h : H p = some (.tup xs)) : p ≠ a ∧ p ≠ b := by
  obtain ⟨ns, m, h1, h2, _⟩ := D.ex
  exact ⟨ne_of h h1 (fun z => nomatch z), ne_of h h2 (fun z => nomatch z)⟩
theorem Deal.put {H : Hp} {a b p : Addr} {o : HO} (D : Deal H a b) (na : p ≠ a) (nb : p ≠ b) : Deal (upd H p o) a b := by
  obtain ⟨ns, m, h1, h2, r⟩ := D.ex
  exact ⟨ns, m, by rw [upd_ne na.symm]; exact h1, by rw [upd_ne nb.symm]; exact h2, r⟩

/-! ### rules as data -/
def kindsAll : List Str := ["ask", "day", "off", "stop", "answer"]
def testsL : List Str := ["whole", "own", "above whole", "above own", "level whole", "level own", "later whole", "later own"]
def testsOf (k : Str) : List Str := if k = "answer" then ["level"] else testsL
def deedsOf (k : Str) : List Str := if k = "answer" then ["count", "count", "drop"] else ["take", "take", "wipe"]
def testsNot (k : Str) : List Str := testsOf k ++ (testsOf k).map (("not " : Str) ++ ·)
structure RuleD where
  k : Str
  ts : List Str
  ds : List Str
structure RuleD.Ok (r : RuleD) : Prop where
  k : r.k ∈ kindsAll
  ts : ∀ t ∈ r.ts, t ∈ testsNot r.k
  ds : ∀ d ∈ r.ds, d ∈ deedsOf r.k
  nt : r.ts.length ≤ 4
  nd : r.ds.length ≤ 4
/-- a drawn rule: a tuple of its kind, tests, deeds -/
def RuleAt (H : Hp) (p : Addr) (r : RuleD) : Prop := ∃ t d : Addr, H p = some (.tup [.str r.k, .ref t, .ref d]) ∧ H t = some (.tup (r.ts.map V.str)) ∧ H d = some (.tup (r.ds.map V.str))
theorem RuleAt.same {H H' : Hp} {p : Addr} {r : RuleD} (h : RuleAt H p r) (s : Same H H') : RuleAt H' p r := by
  obtain ⟨t, d, h1, h2, h3⟩ := h
  exact ⟨t, d, s _ _ h1, s _ _ h2, s _ _ h3⟩
theorem RuleAt.kp {H H' : Hp} {a b p : Addr} {r : RuleD} (h : RuleAt H p r) (k : Kp a b H H') (D : Deal H a b) : RuleAt H' p r := by
  obtain ⟨t, d, h1, h2, h3⟩ := h
  have n1 := D.netup h1
  have n2 := D.netup h2
  have n3 := D.netup h3
  exact ⟨t, d, k _ _ n1.1 n1.2 h1, k _ _ n2.1 n2.2 h2, k _ _ n3.1 n3.2 h3⟩
theorem str_nil_app (y : Str) : (("" : Str) ++ y) = y := by
  have e : ("" : Str) = Str.empty := by decide +kernel
  rw [e]
  exact Str.empty_append y
theorem mem_len {l : List Str} (n : Nat) (h : ∀ x ∈ l, x.length ≤ n) {x : Str} (hx : x ∈ l) : x.length ≤ n := h x hx
theorem testsNot_len {k t : Str} (h : t ∈ testsNot k) : t.length ≤ 16 := by
  have h1 : ∀ t ∈ testsL ++ testsL.map (("not " : Str) ++ ·), t.length ≤ 16 := by decide +kernel
  have h2 : ∀ t ∈ (["level"] : List Str) ++ (["level"] : List Str).map (("not " : Str) ++ ·), t.length ≤ 16 := by decide +kernel
  unfold testsNot testsOf at h
  split at h
  · exact h2 t h
  · exact h1 t h
theorem deedsOf_len {k t : Str} (h : t ∈ deedsOf k) : t.length ≤ 16 := by
  have h1 : ∀ t ∈ (["count", "count", "drop"] : List Str), t.length ≤ 16 := by decide +kernel
  have h2 : ∀ t ∈ (["take", "take", "wipe"] : List Str), t.length ≤ 16 := by decide +kernel
  unfold deedsOf at h
  split at h
  · exact h1 t h
  · exact h2 t h
theorem testsOf_len {k t : Str} (h : t ∈ testsOf k) : t.length ≤ 16 := testsNot_len (List.mem_append_left _ h)
theorem kinds_len {k : Str} (h : k ∈ kindsAll) : k.length ≤ 16 := by
  have h1 : ∀ t ∈ kindsAll, t.length ≤ 16 := by decide +kernel
  exact h1 k h
theorem size_of {n : Nat} (h : n ≤ 100000) : n ≤ sizeLine := Nat.le_trans h (by decide)

def spPick (K : PySem.W.Frag) : Sp := fun vs H Q _ => ∃ (a b l : Addr) (xs : List V), vs = [.ref a, .ref l] ∧ Deal H a b ∧ l ≠ a ∧ l ≠ b ∧ (SqL K H l xs ∨ SqT K H l xs) ∧ 0 < xs.length ∧ xs.length < 1000000 ∧
  ∀ x H', x ∈ xs → Kp a b H H' → Deal H' a b → Q x H'
def spTestsOf : Sp := fun vs H Q _ => ∃ k : Str, vs = [.str k] ∧ ∀ l H', Same H H' → H l = none → H' l = some (.lst ((testsOf k).map V.str)) → Q (.ref l) H'
def spDeedsOf : Sp := fun vs H Q _ => ∃ k : Str, vs = [.str k] ∧ ∀ l H', Same H H' → H l = none → H' l = some (.lst ((deedsOf k).map V.str)) → Q (.ref l) H'
def spWideRule : Sp := fun vs H Q _ => ∃ (a b : Addr), vs = [.ref a] ∧ Deal H a b ∧ ∀ p (r : RuleD) H', r.Ok → Kp a b H H' → Deal H' a b → RuleAt H' p r → Q (.ref p) H'

section
variable {P : Program} {w : World} {K : PySem.W.Frag} {mg : Str → Option Value} {base : Heap}
theorem scPick : FnScope ["_law_deal_here", "_law_some"] ["_law_deal_here", "_law_some"] (defScope sPick) := ⟨rfl, rfl, rfl, by decide +kernel, rfl, by decide +kernel, by decide +kernel⟩
theorem scTestsOf : FnScope ["_law_kind", "_law_found", "_law_word"] ["_law_kind"] (defScope sTestsOf) := ⟨rfl, rfl, rfl, by decide +kernel, rfl, by decide +kernel, by decide +kernel⟩
theorem scLawDeedsOf : FnScope ["_law_kind"] ["_law_kind"] (defScope sLawDeedsOf) := ⟨rfl, rfl, rfl, by decide +kernel, rfl, by decide +kernel, by decide +kernel⟩
theorem ok_pick {f fDraw : Addr} {fd fdDraw : FuncData} (F : Fun K "_law_pick" "_law_pick" sPick f fd) (T : TxB mg) (D_draw : Df K mg "_law_draw" sDraw ["_law_deal_here", "_law_many"] fDraw fdDraw) :
    FnOk P w K mg base CX0 2 f fd ["_law_deal_here", "_law_some"] (spPick K) := by
  have G_draw : FnOk P w K mg base CX0 1 fDraw fdDraw ["_law_deal_here", "_law_many"] spDraw := ok_draw D_draw.F T.n_int
  refine F.ok scPick (fun vs H Q E h => ?_) (fun cdv A outer s H vs Q E hr h => ?_)
  · obtain ⟨a, b, l, xs, rfl, _⟩ := h
    rfl
  · obtain ⟨a, b, l, xs, rfl, D, na, nb, hS, h0, h1, q⟩ := h
    refine ⟨_, pss_one (ps_ret (pe_ix ix_seq (pv 1) (pe_call G_draw (hr.mono (by decide)) rfl D_draw.g D_draw.F.kp D_draw.b .nil pass0 (pa_cons (pv 0) (pa_cons (pe_callB call_len_seq (by rfl) T.n_len (by decide +kernel) (pa_cons (pv 1) pa_nil)) pa_nil))) (fun _ _ => rfl))), ?_⟩
    refine ⟨_, rfl, _, rfl, _, rfl, l, xs, rfl, hS, a, b, _, rfl, D, by omega, by omega, fun r H1 r0 r1 kp D1 => ?_⟩
    obtain ⟨i, rfl⟩ := Int.eq_ofNat_of_zero_le r0
    have hi : i < xs.length := by omega
    have e := List.getElem?_eq_getElem hi
    have m := List.getElem_mem hi
    rcases hS with hS | hS
    · exact .inl ⟨l, xs, _, _, rfl, rfl, kp.sqL na nb hS, atI_nat e, q _ _ m kp D1⟩
    · exact .inr (.inl ⟨l, xs, _, _, rfl, rfl, kp.sqT na nb hS, atI_nat e, q _ _ m kp D1⟩)
theorem ok_tests_of {f : Addr} {fd : FuncData} (F : Fun K "_law_tests_of" "_law_tests_of" sTestsOf f fd) : FnOk P w K mg base CX0 1 f fd ["_law_kind"] spTestsOf := by
  refine F.ok scTestsOf (fun vs H Q E h => ?_) (fun cdv A outer s H vs Q E hr h => ?_)
  · obtain ⟨k, rfl, _⟩ := h
    rfl
  · obtain ⟨k, rfl, q⟩ := h
    refine ⟨_, pss_cons (ps_if (pt_cmpR op_eq (pv 0) pe_str (nomark _)) (pss_one (ps_ret (pe_lst (pa_cons pe_str pa_nil)))) pss_nil)
      (pss_cons (ps_set (i := 1) scTestsOf.nd rfl (.inl rfl) (pe_lst (pa_cons pe_str (pa_cons pe_str pa_nil))))
      (pss_cut (ps_for PassesOwn.never rfl (pi_tup (pe_tup (pa_cons pe_str (pa_cons pe_str (pa_cons pe_str pa_nil))))) (pg_name (i := 2) scTestsOf.nd rfl (Or.inl rfl)) (pss_one (ps_expr (pe_bm PySem.F.plainAttrs_list PySem.F.slot_list_extend PySem.F.type_list_extend mt_extend (pv 1) (pa_cons (pe_lst (pa_cons (pe_op op_add_str (pv 2) pe_str) (pa_cons (pe_op op_add_str (pv 2) pe_str) pa_nil))) pa_nil)))))
      (pss_one (ps_ret (pv 1))))), ?_⟩
    refine ⟨_, rfl, rfl, _, rfl, ite2 (fun e => ?_) (fun e => ?_)⟩
    · refine ⟨by show 1 ≤ sizeLine; decide, fun p np => ?_⟩
      have ek : k = "answer" := by
        have := of_decide_eq_true e
        injection this
      refine q p _ (same_upd np) np ?_
      rw [upd_same, ek]
      rfl
    · refine ⟨by show 2 ≤ sizeLine; decide, fun l nl => ?_⟩
      have ek : ¬ k = "answer" := fun z => e (decide_eq_true (by rw [z]))
      have s1 : Same H (upd H l (.lst [.str "whole", .str "own"])) := same_upd nl
      refine ⟨fun σ H' => ∃ v, σ = [some (.str k), some (.ref l), v] ∧ Same H H' ∧ H' l = some (.lst (testsL.map V.str)), ?_, ?_⟩
      · refine ⟨by show 3 ≤ sizeLine; decide, fun t nt => ⟨t, rfl, ⟨_, SqT.of upd_same⟩, ?_⟩⟩
        have ntl : t ≠ l := fun z => by
          rw [z, upd_same] at nt
          cases nt
        refine for_tup (K := K) (a := t) (xs := [.str "above", .str "level", .str "later"]) (fun i σ H' => ∃ v, σ = [some (.str k), some (.ref l), v] ∧ Same H H' ∧ H' t = some (.tup [.str "above", .str "level", .str "later"]) ∧ H' l = some (.lst ((testsL.take (2 + 2 * i)).map V.str)))
          ⟨_, rfl, s1.trans (same_upd nt), upd_same, by rw [upd_ne ntl.symm, upd_same]; rfl⟩ (fun i σ H' _ ⟨_, _, _, e, _⟩ => SqT.of e) ?_ ?_
        · rintro i x σ H' hx ⟨v, rfl, sm, ht, hl⟩
          obtain ⟨y, rfl, ey⟩ : ∃ y : Str, x = .str y ∧ testsL.take (2 + 2 * i) ++ [y ++ " whole", y ++ " own"] = testsL.take (2 + 2 * (i + 1)) ∧ y.length ≤ 5 := by
            match i, hx with
            | 0, hx => exact ⟨_, (Option.some.inj hx).symm, by decide +kernel⟩
            | 1, hx => exact ⟨_, (Option.some.inj hx).symm, by decide +kernel⟩
            | 2, hx => exact ⟨_, (Option.some.inj hx).symm, by decide +kernel⟩
            | i + 3, hx => cases hx
          have hy : ∀ z : Str, z.length ≤ 6 → y.length + z.length ≤ sizeLine := fun z hz => size_of (by omega)
          refine ⟨_, rfl, .inl ⟨rfl, _, SqL.of hl⟩, _, rfl, _, _, rfl, rfl, hy _ (by decide +kernel), _, rfl, _, _, rfl, rfl, hy _ (by decide +kernel), by show 2 ≤ sizeLine; decide, fun m nm => ?_⟩
          have nml : l ≠ m := ne_of_none hl nm
          have nmt : t ≠ m := ne_of_none ht nm
          refine ⟨l, m, _, _, rfl, rfl, by rw [upd_ne nml]; exact hl, upd_same, ?_, ?_⟩
          · rw [List.length_map, List.length_take]
            show _ + 2 ≤ sizeLine
            have e8 : testsL.length = 8 := rfl
            exact size_of (by omega)
          · refine ⟨_, rfl, (sm.trans (same_upd nm)).put nl, ?_, ?_⟩
            · rw [upd_ne ntl, upd_ne nmt]
              exact ht
            · rw [upd_same, ← ey.1, List.map_append]
              rfl
        · rintro σ H' ⟨v, rfl, sm, ht, hl⟩
          exact ⟨_, rfl, sm, hl⟩
      · rintro σ H' ⟨v, rfl, sm, hl⟩
        refine ⟨_, rfl, q l H' sm nl ?_⟩
        rw [hl]
        unfold testsOf
        rw [if_neg ek]
theorem ok_deeds_of {f : Addr} {fd : FuncData} (F : Fun K "_law_deeds_of" "_law_deeds_of" sLawDeedsOf f fd) : FnOk P w K mg base CX0 1 f fd ["_law_kind"] spDeedsOf := by
  refine F.ok scLawDeedsOf (fun vs H Q E h => ?_) (fun cdv A outer s H vs Q E hr h => ?_)
  · obtain ⟨k, rfl, _⟩ := h
    rfl
  · obtain ⟨k, rfl, q⟩ := h
    refine ⟨_, pss_one (ps_ret (pe_ifExp (pt_cmpR op_eq (pv 0) pe_str (nomark _)) (pe_lst (pa_cons pe_str (pa_cons pe_str (pa_cons pe_str pa_nil)))) (pe_lst (pa_cons pe_str (pa_cons pe_str (pa_cons pe_str pa_nil)))))), ?_⟩
    refine ⟨_, rfl, rfl, _, rfl, ite2 (fun e => ?_) (fun e => ?_)⟩
    · refine ⟨by show 3 ≤ sizeLine; decide, fun p np => ?_⟩
      have ek : k = "answer" := by
        have := of_decide_eq_true e
        injection this
      refine q p _ (same_upd np) np ?_
      rw [upd_same, ek]
      rfl
    · refine ⟨by show 3 ≤ sizeLine; decide, fun p np => ?_⟩
      have ek : ¬ k = "answer" := fun z => e (decide_eq_true (by rw [z]))
      refine q p _ (same_upd np) np ?_
      rw [upd_same]
      unfold deedsOf
      rw [if_neg ek]
      rfl
end
end Ov


namespace Ov
open PySem PySem.Spec PyProof.Rows L2
open Evl (pss_cut tCut Ex Ev EvT EvL EvA EvU)

/-! ### what the text has at its top -/
structure TxR (K : PySem.W.Frag) (mg : Str → Option Value) (a_LETTERS a_LETTER_TESTS a_LETTER_DEEDS a_ANSWER_TESTS a_ANSWER_DEEDS CR : Addr) (tA tN : Tok) : Prop extends TxB mg where
  g_LETTERS : mg "LETTERS" = some (.ref a_LETTERS)
  s_LETTERS : ∀ H, SqT K H a_LETTERS ((["ask", "day", "off", "stop"] : List Str).map V.str)
  g_ANSWER : mg "ANSWER" = some (.str "answer" tA)
  g_NOT : mg "NOT" = some (.str "not " tN)
  g_LETTER_TESTS : mg "LETTER_TESTS" = some (.ref a_LETTER_TESTS)
  s_LETTER_TESTS : ∀ H, SqT K H a_LETTER_TESTS (testsL.map V.str)
  g_LETTER_DEEDS : mg "LETTER_DEEDS" = some (.ref a_LETTER_DEEDS)
  s_LETTER_DEEDS : ∀ H, SqT K H a_LETTER_DEEDS ((["take", "wipe"] : List Str).map V.str)
  g_ANSWER_TESTS : mg "ANSWER_TESTS" = some (.ref a_ANSWER_TESTS)
  s_ANSWER_TESTS : ∀ H, SqT K H a_ANSWER_TESTS ((["level"] : List Str).map V.str)
  g_ANSWER_DEEDS : mg "ANSWER_DEEDS" = some (.ref a_ANSWER_DEEDS)
  s_ANSWER_DEEDS : ∀ H, SqT K H a_ANSWER_DEEDS ((["count", "drop"] : List Str).map V.str)
  g_Rule : mg "Rule" = some (.ref CR)
  n_isinstance : mg "isinstance" = none
  n_str : mg "str" = none
  n_all : mg "all" = none
  cl : Cls K CR
  nK : NoAttr K CR "kind"
  nT : NoAttr K CR "tests"
  nD : NoAttr K CR "deeds"
  ci : PySem.W.findIn K (.ref CR) "__class__" = some (some (.builtin "object.__class__"))
  cs : PySem.W.specialIn K (.builtin "object.__class__") "__get__" = some (some (.builtin "getset_descriptor.__get__"))
  ct : PySem.W.takesIn K (.builtin "object.__class__") = some true
  co : PySem.W.mroIn K CR (.type "object") = some true

/-! ### a value's membership among texts -/
theorem inV_strs (k : Str) : ∀ l : List Str, inV (.str k) (l.map V.str) = decide (k ∈ l)
  | [] => rfl
  | x :: r => by
    have ih := inV_strs k r
    unfold inV at ih ⊢
    rw [List.map_cons, List.any_cons, ih]
    show (x == k || decide (k ∈ r)) = decide (k ∈ x :: r)
    by_cases h : x = k
    · rw [h]
      simp
    · have h2 : ¬ k = x := fun z => h z.symm
      simp [h, h2]
theorem flat_strs (l : List Str) : (l.map V.str).all flatV = true := by
  rw [List.all_eq_true]
  intro x hx
  obtain ⟨y, _, rfl⟩ := List.mem_map.mp hx
  rfl
theorem strs_at {l : List Str} {i : Nat} {x : V} (h : (l.map V.str)[i]? = some x) : ∃ y, x = .str y ∧ l[i]? = some y := by
  rw [List.getElem?_map] at h
  cases e : l[i]? with
  | none =>
    rw [e] at h
    cases h
  | some y =>
    rw [e] at h
    exact ⟨y, (Option.some.inj h).symm, rfl⟩
theorem ex_same {H H' : Hp} (h : Ex H H') : Same H H' := fun b o e => h b o e
theorem tyx_list {K : PySem.W.Frag} {H : Hp} {a : Addr} {xs : List V} (h : SqL K H a xs) : TyX K H (.ref a) (.type "list") := by
  rcases h with (h | ⟨o, h⟩) | ⟨o, its, n, h, c, _⟩
  · exact .base (.lst h)
  · exact .base (.frz h)
  · exact .kList h c
theorem tyx_tuple {K : PySem.W.Frag} {H : Hp} {a : Addr} {xs : List V} (h : SqT K H a xs) : TyX K H (.ref a) (.type "tuple") := by
  rcases h with (h | ⟨o, h⟩) | ⟨o, its, n, h, c, _⟩
  · exact .base (.tup h)
  · exact .fTuple h
  · exact .kTuple h c

/-! ### promises -/
def spIsSeq (K : PySem.W.Frag) : Sp := fun vs H Q _ => ∃ (a : Addr) (xs : List V), vs = [.ref a] ∧ (SqL K H a xs ∨ SqT K H a xs) ∧ ∀ H', Ex H H' → Q (.bl true) H'
def spIsKind : Sp := fun vs H Q _ => ∃ k : Str, vs = [.str k] ∧ Q (.bl (decide (k ∈ kindsAll))) H
def spIsTest : Sp := fun vs H Q _ => ∃ k t : Str, vs = [.str k, .str t] ∧ k ∈ kindsAll ∧ t ∈ testsNot k ∧ Q (.bl true) H
def spIsDeed : Sp := fun vs H Q _ => ∃ k t : Str, vs = [.str k, .str t] ∧ k ∈ kindsAll ∧ t ∈ deedsOf k ∧ Q (.bl true) H
/-- a rule's fields -/
def rf (k : Str) (t d : Addr) : List (Str × V) := putF "deeds" (.ref d) (putF "tests" (.ref t) (putF "kind" (.str k) []))
/-- at p a Rule of the class at C -/
def RuleObj (K : PySem.W.Frag) (C : Addr) (H : Hp) (p : Addr) (r : RuleD) : Prop := ∃ (dx t d : Addr), H p = some (.ins C dx (rf r.k t d)) ∧ SqT K H t (r.ts.map V.str) ∧ SqT K H d (r.ds.map V.str)
theorem RuleObj.ex {K : PySem.W.Frag} {C : Addr} {H H' : Hp} {p : Addr} {r : RuleD} (h : RuleObj K C H p r) (e : Ex H H') : RuleObj K C H' p r := by
  obtain ⟨dx, t, d, h1, h2, h3⟩ := h
  exact ⟨dx, t, d, e _ _ h1, Evl.ex_t e h2, Evl.ex_t e h3⟩
/-- its parts are good (the lengths are bounded far above what is drawn) -/
structure RuleD.Good (r : RuleD) : Prop where
  k : r.k ∈ kindsAll
  ts : ∀ t ∈ r.ts, t ∈ testsNot r.k
  ds : ∀ d ∈ r.ds, d ∈ deedsOf r.k
  nt : r.ts.length ≤ 1000
  nd : r.ds.length ≤ 1000
theorem RuleD.Good.pt {r : RuleD} (g : r.Good) : Plain r.ts := fun t ht => by
  have h1 : ∀ t ∈ testsL ++ testsL.map (("not " : Str) ++ ·), PyData.canLay0 (.str t) = true := by decide +kernel
  have h2 : ∀ t ∈ (["level"] : List Str) ++ (["level"] : List Str).map (("not " : Str) ++ ·), PyData.canLay0 (.str t) = true := by decide +kernel
  have h := g.ts t ht
  unfold testsNot testsOf at h
  split at h
  · exact h2 t h
  · exact h1 t h
theorem RuleD.Good.pd {r : RuleD} (g : r.Good) : Plain r.ds := fun t ht => by
  have h1 : ∀ t ∈ (["count", "count", "drop"] : List Str), PyData.canLay0 (.str t) = true := by decide +kernel
  have h2 : ∀ t ∈ (["take", "take", "wipe"] : List Str), PyData.canLay0 (.str t) = true := by decide +kernel
  have h := g.ds t ht
  unfold deedsOf at h
  split at h
  · exact h1 t h
  · exact h2 t h
theorem RuleD.Ok.good {r : RuleD} (h : r.Ok) : r.Good := ⟨h.k, h.ts, h.ds, Nat.le_trans h.nt (by decide), Nat.le_trans h.nd (by decide)⟩
def spRuleInit (K : PySem.W.Frag) (C : Addr) : Sp := fun vs H Q _ => ∃ (p t d dx : Addr) (r : RuleD), vs = [.ref p, .str r.k, .ref t, .ref d] ∧ H p = some (.ins C dx []) ∧ (SqL K H t (r.ts.map V.str) ∨ SqT K H t (r.ts.map V.str)) ∧ (SqL K H d (r.ds.map V.str) ∨ SqT K H d (r.ds.map V.str)) ∧ r.Good ∧
  ∀ H', (∀ b o, b ≠ p → H b = some o → H' b = some o) → RuleObj K C H' p r → Q .non H'

section
variable {P : Program} {w : World} {K : PySem.W.Frag} {mg : Str → Option Value} {base : Heap} {a_LETTERS a_LETTER_TESTS a_LETTER_DEEDS a_ANSWER_TESTS a_ANSWER_DEEDS CR : Addr} {tA tN : Tok}
theorem scIsSequence : FnScope ["value"] ["value"] (defScope sIsSequence) := ⟨rfl, rfl, rfl, by decide +kernel, rfl, by decide +kernel, by decide +kernel⟩
theorem scIsKind : FnScope ["value"] ["value"] (defScope sIsKind) := ⟨rfl, rfl, rfl, by decide +kernel, rfl, by decide +kernel, by decide +kernel⟩
theorem scIsTest : FnScope ["kind", "value", "known"] ["kind", "value"] (defScope sIsTest) := ⟨rfl, rfl, rfl, by decide +kernel, rfl, by decide +kernel, by decide +kernel⟩
theorem scIsDeed : FnScope ["kind", "value", "known"] ["kind", "value"] (defScope sIsDeed) := ⟨rfl, rfl, rfl, by decide +kernel, rfl, by decide +kernel, by decide +kernel⟩
theorem scRuleInit : FnScope ["self", "kind", "tests", "deeds", "deed", "test"] ["self", "kind", "tests", "deeds"] (defScope sRuleInit) := ⟨rfl, rfl, rfl, by decide +kernel, rfl, by decide +kernel, by decide +kernel⟩
theorem ok_is_sequence {f : Addr} {fd : FuncData} (F : Fun K "is_sequence" "is_sequence" sIsSequence f fd) (T : TxR K mg a_LETTERS a_LETTER_TESTS a_LETTER_DEEDS a_ANSWER_TESTS a_ANSWER_DEEDS CR tA tN) : FnOk P w K mg base CX0 1 f fd ["value"] (spIsSeq K) := by
  refine F.ok scIsSequence (fun vs H Q E h => ?_) (fun cdv A outer s H vs Q E hr h => ?_)
  · obtain ⟨a, xs, rfl, _⟩ := h
    rfl
  · obtain ⟨a, xs, rfl, hS, q⟩ := h
    refine ⟨_, pss_one (ps_ret (pe_callB call_isiT (by rfl) T.n_isinstance (by decide +kernel) (pa_cons (pv 0) (pa_cons (pe_tup (pa_cons (pe_bltn (v := .ty "list") (by rfl) T.n_list (by decide +kernel) rfl) (pa_cons (pe_bltn (v := .ty "tuple") (by rfl) T.n_tuple (by decide +kernel) rfl) pa_nil))) pa_nil)))), ?_⟩
    refine ⟨_, rfl, by show 2 ≤ sizeLine; decide, fun p np => ?_⟩
    have e1 : Ex H (upd H p (.tup [.ty "list", .ty "tuple"])) := Ex.new np
    rcases hS with hS | hS
    · exact ⟨_, p, _, _, [.type "list", .type "tuple"], true, rfl, upd_same, .cons (.ty _) (.cons (.ty _) .nil), tyx_list (Evl.ex_l e1 hS), kitAny_cons (kit_ty (r := true) (by decide +kernel)) (fun z => nomatch z) (fun _ => rfl), q _ e1⟩
    · exact ⟨_, p, _, _, [.type "list", .type "tuple"], true, rfl, upd_same, .cons (.ty _) (.cons (.ty _) .nil), tyx_tuple (Evl.ex_t e1 hS), kitAny_cons (kit_ty (r := false) (by decide +kernel)) (fun _ => kitAny_cons (kit_ty (r := true) (by decide +kernel)) (fun z => nomatch z) (fun _ => rfl)) (fun z => nomatch z), q _ e1⟩
theorem ok_is_kind {f : Addr} {fd : FuncData} (F : Fun K "is_kind" "is_kind" sIsKind f fd) (T : TxR K mg a_LETTERS a_LETTER_TESTS a_LETTER_DEEDS a_ANSWER_TESTS a_ANSWER_DEEDS CR tA tN) : FnOk P w K mg base CX0 1 f fd ["value"] spIsKind := by
  refine F.ok scIsKind (fun vs H Q E h => ?_) (fun cdv A outer s H vs Q E hr h => ?_)
  · obtain ⟨k, rfl, _⟩ := h
    rfl
  · obtain ⟨k, rfl, q⟩ := h
    refine ⟨_, pss_one (ps_ret (pe_or (pe_cmpR op_in_seq (pv 0) (pe_glob (v := .ref a_LETTERS) rfl T.g_LETTERS rfl) (by rfl)) (pe_one (pe_cmpR op_eq (pv 0) (pe_glob (v := .str "answer") rfl T.g_ANSWER ⟨_, rfl⟩) (nomark _))))), ?_⟩
    refine ⟨_, rfl, _, _, rfl, .inr (T.s_LETTERS _), rfl, flat_strs _, _, rfl, ?_⟩
    rw [inV_strs]
    refine ite2 (fun e => ?_) (fun e => ?_)
    · have h1 : k ∈ (["ask", "day", "off", "stop"] : List Str) := of_decide_eq_true e
      have h2 : k ∈ kindsAll := List.mem_append_left (["answer"] : List Str) h1
      rw [decide_eq_true h2] at q
      exact q
    · refine ⟨_, rfl, rfl, ?_⟩
      have h1 : ¬ k ∈ (["ask", "day", "off", "stop"] : List Str) := fun z => e (decide_eq_true z)
      have h2 : decide (V.str k = V.str "answer") = decide (k ∈ kindsAll) := by
        by_cases hk : k = "answer"
        · rw [hk]
          decide +kernel
        · rw [decide_eq_false (fun z => hk (V.str.inj z)), decide_eq_false]
          intro z
          rcases List.mem_append.mp (show k ∈ (["ask", "day", "off", "stop"] : List Str) ++ (["answer"] : List Str) from z) with z | z
          · exact h1 z
          · exact hk (List.mem_singleton.mp z)
      rw [h2]
      exact q
theorem ok_is_test {f : Addr} {fd : FuncData} (F : Fun K "is_test" "is_test" sIsTest f fd) (T : TxR K mg a_LETTERS a_LETTER_TESTS a_LETTER_DEEDS a_ANSWER_TESTS a_ANSWER_DEEDS CR tA tN) : FnOk P w K mg base CX0 1 f fd ["kind", "value"] spIsTest := by
  refine F.ok scIsTest (fun vs H Q E h => ?_) (fun cdv A outer s H vs Q E hr h => ?_)
  · obtain ⟨k, t, rfl, _⟩ := h
    rfl
  · obtain ⟨k, t, rfl, hk, ht, q⟩ := h
    refine ⟨_, pss_cons (ps_set (i := 2) scIsTest.nd rfl (.inl rfl) (pe_ifExp (pt_cmpR op_eq (pv 0) (pe_glob (v := .str "answer") rfl T.g_ANSWER ⟨_, rfl⟩) (nomark _)) (pe_glob (v := .ref a_ANSWER_TESTS) rfl T.g_ANSWER_TESTS rfl) (pe_glob (v := .ref a_LETTER_TESTS) rfl T.g_LETTER_TESTS rfl)))
      (pss_one (ps_ret (pe_and (pe_callB call_isi (by rfl) T.n_isinstance (by decide +kernel) (pa_cons (pv 1) (pa_cons (pe_bltn (v := .ty "str") (by rfl) T.n_str (by decide +kernel) rfl) pa_nil))) (pe_one (pe_cmpR op_in_seq (pe_bm PySem.F.plainAttrs_str PySem.F.slot_str_removeprefix PySem.F.type_str_removeprefix mt_removeprefix (pv 1) (pa_cons (pe_glob (v := .str "not ") rfl T.g_NOT ⟨_, rfl⟩) pa_nil)) (pv 2) (by rfl)))))), ?_⟩
    have lt := testsNot_len ht
    have h1 : ∀ t ∈ testsL ++ testsL.map (("not " : Str) ++ ·), Txt.removeprefix t "not " ∈ testsL := by decide +kernel
    have h2 : ∀ t ∈ (["level"] : List Str) ++ (["level"] : List Str).map (("not " : Str) ++ ·), Txt.removeprefix t "not " ∈ (["level"] : List Str) := by decide +kernel
    refine ⟨_, rfl, rfl, _, rfl, ite2 (fun e => ?_) (fun e => ?_)⟩
    · have ek : k = "answer" := V.str.inj (of_decide_eq_true e)
      have ht2 : Txt.removeprefix t "not " ∈ (["level"] : List Str) := h2 t (by
        unfold testsNot testsOf at ht
        rw [if_pos ek] at ht
        exact ht)
      refine ⟨_, rfl, _, _, _, _, true, rfl, .ty _, .base (.str _), kit_ty (by decide +kernel), _, rfl, iteT ?_⟩
      refine ⟨_, rfl, rfl, _, _, rfl, rfl, size_of (by omega), _, rfl, _, _, rfl, .inr (T.s_ANSWER_TESTS _), rfl, flat_strs _, ?_⟩
      rw [inV_strs, decide_eq_true ht2]
      exact q
    · have ek : ¬ k = "answer" := fun z => e (decide_eq_true (by rw [z]))
      have ht2 : Txt.removeprefix t "not " ∈ testsL := h1 t (by
        unfold testsNot testsOf at ht
        rw [if_neg ek] at ht
        exact ht)
      refine ⟨_, rfl, _, _, _, _, true, rfl, .ty _, .base (.str _), kit_ty (by decide +kernel), _, rfl, iteT ?_⟩
      refine ⟨_, rfl, rfl, _, _, rfl, rfl, size_of (by omega), _, rfl, _, _, rfl, .inr (T.s_LETTER_TESTS _), rfl, flat_strs _, ?_⟩
      rw [inV_strs, decide_eq_true ht2]
      exact q
theorem ok_is_deed {f : Addr} {fd : FuncData} (F : Fun K "is_deed" "is_deed" sIsDeed f fd) (T : TxR K mg a_LETTERS a_LETTER_TESTS a_LETTER_DEEDS a_ANSWER_TESTS a_ANSWER_DEEDS CR tA tN) : FnOk P w K mg base CX0 1 f fd ["kind", "value"] spIsDeed := by
  refine F.ok scIsDeed (fun vs H Q E h => ?_) (fun cdv A outer s H vs Q E hr h => ?_)
  · obtain ⟨k, t, rfl, _⟩ := h
    rfl
  · obtain ⟨k, t, rfl, hk, ht, q⟩ := h
    refine ⟨_, pss_cons (ps_set (i := 2) scIsDeed.nd rfl (.inl rfl) (pe_ifExp (pt_cmpR op_eq (pv 0) (pe_glob (v := .str "answer") rfl T.g_ANSWER ⟨_, rfl⟩) (nomark _)) (pe_glob (v := .ref a_ANSWER_DEEDS) rfl T.g_ANSWER_DEEDS rfl) (pe_glob (v := .ref a_LETTER_DEEDS) rfl T.g_LETTER_DEEDS rfl)))
      (pss_one (ps_ret (pe_cmpR op_in_seq (pv 1) (pv 2) (by rfl)))), ?_⟩
    have h1 : ∀ t ∈ (["take", "take", "wipe"] : List Str), t ∈ (["take", "wipe"] : List Str) := by decide +kernel
    have h2 : ∀ t ∈ (["count", "count", "drop"] : List Str), t ∈ (["count", "drop"] : List Str) := by decide +kernel
    refine ⟨_, rfl, rfl, _, rfl, ite2 (fun e => ?_) (fun e => ?_)⟩
    · have ek : k = "answer" := V.str.inj (of_decide_eq_true e)
      have ht2 : t ∈ (["count", "drop"] : List Str) := h2 t (by
        unfold deedsOf at ht
        rw [if_pos ek] at ht
        exact ht)
      refine ⟨_, rfl, _, rfl, _, _, rfl, .inr (T.s_ANSWER_DEEDS _), rfl, flat_strs _, ?_⟩
      rw [inV_strs, decide_eq_true ht2]
      exact q
    · have ek : ¬ k = "answer" := fun z => e (decide_eq_true (by rw [z]))
      have ht2 : t ∈ (["take", "wipe"] : List Str) := h1 t (by
        unfold deedsOf at ht
        rw [if_neg ek] at ht
        exact ht)
      refine ⟨_, rfl, _, rfl, _, _, rfl, .inr (T.s_LETTER_DEEDS _), rfl, flat_strs _, ?_⟩
      rw [inV_strs, decide_eq_true ht2]
      exact q
theorem ok_rule_init {f fSeq fKind fTest fDeed : Addr} {fd fdSeq fdKind fdTest fdDeed : FuncData} {dvs : List V} {kws : List (Str × V)} (F : FunD K "__init__" "Rule.__init__" (defArgs sRuleInit) (defBody sRuleInit) (defScope sRuleInit) dvs kws f fd) (T : TxR K mg a_LETTERS a_LETTER_TESTS a_LETTER_DEEDS a_ANSWER_TESTS a_ANSWER_DEEDS CR tA tN)
    (D_is_sequence : Df K mg "is_sequence" sIsSequence ["value"] fSeq fdSeq) (D_is_kind : Df K mg "is_kind" sIsKind ["value"] fKind fdKind) (D_is_test : Df K mg "is_test" sIsTest ["kind", "value"] fTest fdTest) (D_is_deed : Df K mg "is_deed" sIsDeed ["kind", "value"] fDeed fdDeed) :
    FnOk P w K mg base CX0 2 f fd ["self", "kind", "tests", "deeds"] (spRuleInit K CR) := by
  have G_is_sequence : FnOk P w K mg base CX0 1 fSeq fdSeq ["value"] (spIsSeq K) := ok_is_sequence D_is_sequence.F T
  have G_is_kind : FnOk P w K mg base CX0 1 fKind fdKind ["value"] spIsKind := ok_is_kind D_is_kind.F T
  have G_is_test : FnOk P w K mg base CX0 1 fTest fdTest ["kind", "value"] spIsTest := ok_is_test D_is_test.F T
  have G_is_deed : FnOk P w K mg base CX0 1 fDeed fdDeed ["kind", "value"] spIsDeed := ok_is_deed D_is_deed.F T
  refine FunD_ok0 F scRuleInit (fun vs H Q E h => ?_) (fun cdv A outer s H vs Q E hr h => ?_)
  · obtain ⟨p, t, d, dx, r, rfl, _⟩ := h
    rfl
  · obtain ⟨p, t, d, dx, r, rfl, hp, hT, hD, G, q⟩ := h
    refine ⟨_, pss_cons (ps_if (pt_not (pt_val (pe_call G_is_kind (hr.mono (by decide)) rfl D_is_kind.g D_is_kind.F.kp D_is_kind.b .nil pass0 (pa_cons (pv 1) pa_nil)))) (pss_one ps_never) pss_nil)
      (pss_cons (ps_if (PW.pt (pw_or (pt_not (pt_val (pe_call G_is_sequence (hr.mono (by decide)) rfl D_is_sequence.g D_is_sequence.F.kp D_is_sequence.b .nil pass0 (pa_cons (pv 2) pa_nil)))) (pw_or1 (pt_not (pt_val (pe_callB (cr_all rfl) (by rfl) T.n_all (by decide +kernel) (pa_cons (pe_lc (own := [("test", 5)]) (g := gName 5) (tt := tYes) rfl scRuleInit.nd (pi_both (pv 2)) (blkOk_by (own := [("test", 5)]) (N := ["self", "kind", "tests", "deeds", "deed", "test"]) (sc := defScope sRuleInit) (by decide +kernel)) (fun _ _ _ _ _ => (pg_name (i := 5) scRuleInit.nd rfl (Or.inl rfl))) (fun _ _ _ _ _ => pts_nil) (fun _ _ _ _ _ => (pe_call G_is_test (hr.mono (by decide)) rfl D_is_test.g D_is_test.F.kp D_is_test.b .nil pass0 (pa_cons (pv 1) (pa_cons (pv 5) pa_nil))))) pa_nil))))))) (pss_one ps_never) pss_nil)
      (pss_cons (ps_if (PW.pt (pw_or (pt_not (pt_val (pe_call G_is_sequence (hr.mono (by decide)) rfl D_is_sequence.g D_is_sequence.F.kp D_is_sequence.b .nil pass0 (pa_cons (pv 3) pa_nil)))) (pw_or1 (pt_not (pt_val (pe_callB (cr_all rfl) (by rfl) T.n_all (by decide +kernel) (pa_cons (pe_lc (own := [("deed", 4)]) (g := gName 4) (tt := tYes) rfl scRuleInit.nd (pi_both (pv 3)) (blkOk_by (own := [("deed", 4)]) (N := ["self", "kind", "tests", "deeds", "deed", "test"]) (sc := defScope sRuleInit) (by decide +kernel)) (fun _ _ _ _ _ => (pg_name (i := 4) scRuleInit.nd rfl (Or.inl rfl))) (fun _ _ _ _ _ => pts_nil) (fun _ _ _ _ _ => (pe_call G_is_deed (hr.mono (by decide)) rfl D_is_deed.g D_is_deed.F.kp D_is_deed.b .nil pass0 (pa_cons (pv 1) (pa_cons (pv 4) pa_nil))))) pa_nil))))))) (pss_one ps_never) pss_nil)
      (pss_cons (ps_fld (pv 0) (pv 1) rfl)
      (pss_cons (ps_fld (pv 0) (pe_callTy call_tuple_any (by rfl) T.n_tuple (by decide +kernel) (pa_cons (pv 2) pa_nil)) rfl)
      (pss_one (ps_fld (pv 0) (pe_callTy call_tuple_any (by rfl) T.n_tuple (by decide +kernel) (pa_cons (pv 3) pa_nil)) rfl)))))), ?_⟩
    refine ⟨_, rfl, _, rfl, _, rfl, ?_⟩
    rw [decide_eq_true G.k]
    refine iteF ?_
    have lT : (r.ts.map V.str).length ≤ 40000 := by rw [List.length_map]; exact Nat.le_trans G.nt (by decide)
    have lD : (r.ds.map V.str).length ≤ 40000 := by rw [List.length_map]; exact Nat.le_trans G.nd (by decide)
    have exB : ∀ {H H' : Hp} {a : Addr} {xs : List V}, Ex H H' → (SqL K H a xs ∨ SqT K H a xs) → (SqL K H' a xs ∨ SqT K H' a xs) := fun e h => h.imp (Evl.ex_l e) (Evl.ex_t e)
    refine Evl.q_when (b := false) (Evl.et_is (Evl.et_or (Evl.et_not (Evl.et_B (ev_call (v := .bl true) (Evl.ea_cons (Evl.ev_var rfl) Evl.ea_nil) fun H1 e1 Q1 q1 => ⟨t, _, rfl, exB e1 hT, fun H2 e2 => q1 H2 e2⟩)))
      (fun _ => Evl.et_not (Evl.et_B (ev_all (bs := List.replicate (r.ts.map V.str).length true) ?_)))) (by rw [all_true]; rfl)) (fun z => nomatch z) (fun _ H1 e1 => ?_)
    · rw [← range_true]
      refine el_lcB (fun _ => .bl true) (Evl.ev_var rfl) hT lT (fun x => rfl) (fun i x H2 e2 hi => ?_)
      obtain ⟨y, rfl, hy⟩ := strs_at hi
      exact ev_call (Evl.ea_cons (Evl.ev_var rfl) (Evl.ea_cons (Evl.ev_var rfl) Evl.ea_nil)) fun H3 e3 Q3 q3 => ⟨r.k, y, rfl, G.k, G.ts y (List.mem_of_getElem? hy), q3 H3 (Ex.refl _)⟩
    refine Evl.q_when (b := false) (Evl.et_is (Evl.et_or (Evl.et_not (Evl.et_B (ev_call (v := .bl true) (Evl.ea_cons (Evl.ev_var rfl) Evl.ea_nil) fun H2 e2 Q1 q1 => ⟨d, _, rfl, exB (e1.trans e2) hD, fun H3 e3 => q1 H3 e3⟩)))
      (fun _ => Evl.et_not (Evl.et_B (ev_all (bs := List.replicate (r.ds.map V.str).length true) ?_)))) (by rw [all_true]; rfl)) (fun z => nomatch z) (fun _ H2 e2 => ?_)
    · rw [← range_true]
      refine el_lcB (fun _ => .bl true) (Evl.ev_var rfl) (exB e1 hD) lD (fun x => rfl) (fun i x H2 e2 hi => ?_)
      obtain ⟨y, rfl, hy⟩ := strs_at hi
      exact ev_call (Evl.ea_cons (Evl.ev_var rfl) (Evl.ea_cons (Evl.ev_var rfl) Evl.ea_nil)) fun H3 e3 Q3 q3 => ⟨r.k, y, rfl, G.k, G.ds y (List.mem_of_getElem? hy), q3 H3 (Ex.refl _)⟩
    -- the fields
    have e12 := e1.trans e2
    have ntp : ∀ {H' : Hp} {a : Addr} {xs : List V} {fs : List (Str × V)}, H' p = some (.ins CR dx fs) → SqT K H' a xs → ∀ o, SqT K (upd H' p o) a xs := by
      intro H' a xs fs hp' h o
      rcases h with (h | ⟨u, h⟩) | h
      · exact .inl (.inl (by rw [upd_ne (ne_of h hp' (fun z => nomatch z))]; exact h))
      · exact .inl (.inr ⟨u, by rw [upd_ne (ne_of h hp' (fun z => nomatch z))]; exact h⟩)
      · exact .inr h
    have ntl : ∀ {H' : Hp} {a : Addr} {xs : List V} {fs : List (Str × V)}, H' p = some (.ins CR dx fs) → SqL K H' a xs → ∀ o, SqL K (upd H' p o) a xs := by
      intro H' a xs fs hp' h o
      rcases h with (h | ⟨u, h⟩) | h
      · exact .inl (.inl (by rw [upd_ne (ne_of h hp' (fun z => nomatch z))]; exact h))
      · exact .inl (.inr ⟨u, by rw [upd_ne (ne_of h hp' (fun z => nomatch z))]; exact h⟩)
      · exact .inr h
    have hp2 := e12 _ _ hp
    refine ⟨_, rfl, _, rfl, p, CR, dx, _, rfl, hp2, T.cl, T.nK, (by show 0 < 1000; decide), ?_⟩
    have hT2 := (exB e12 hT).imp (fun h => ntl hp2 h (.ins CR dx (putF "kind" (.str r.k) []))) (fun h => ntp hp2 h (.ins CR dx (putF "kind" (.str r.k) [])))
    have hD2 := (exB e12 hD).imp (fun h => ntl hp2 h (.ins CR dx (putF "kind" (.str r.k) []))) (fun h => ntp hp2 h (.ins CR dx (putF "kind" (.str r.k) [])))
    refine ⟨_, rfl, t, _, rfl, hT2, fun t2 H3 e3 s3 => ?_⟩
    have hp3 := e3 _ _ upd_same
    refine ⟨_, rfl, p, CR, dx, _, rfl, hp3, T.cl, T.nT, (by show 1 < 1000; decide), ?_⟩
    have hD3 := (exB e3 hD2).imp (fun h => ntl hp3 h (.ins CR dx (putF "tests" (.ref t2) (putF "kind" (.str r.k) [])))) (fun h => ntp hp3 h (.ins CR dx (putF "tests" (.ref t2) (putF "kind" (.str r.k) []))))
    have s3' := ntp hp3 s3 (.ins CR dx (putF "tests" (.ref t2) (putF "kind" (.str r.k) [])))
    refine ⟨_, rfl, d, _, rfl, hD3, fun d2 H4 e4 s4 => ?_⟩
    have hp4 := e4 _ _ upd_same
    refine ⟨_, rfl, p, CR, dx, _, rfl, hp4, T.cl, T.nD, (by show 2 < 1000; decide), ?_⟩
    refine q _ (fun b o hb hh => ?_) ⟨dx, t2, d2, upd_same, ntp hp4 (Evl.ex_t e4 s3') _, ntp hp4 s4 _⟩
    rw [upd_ne hb]
    refine e4 _ _ ?_
    rw [upd_ne hb]
    refine e3 _ _ ?_
    rw [upd_ne hb]
    exact e12 _ _ hh
/-! ### rules as texts, rules compared -/
theorem rf_k (k : Str) (t d : Addr) : (rf k t d).lookup ("kind" : Str) = some (.str k) := by
  unfold rf
  rw [lookup_putF, if_neg (by decide +kernel), lookup_putF, if_neg (by decide +kernel), lookup_putF, if_pos rfl]
theorem rf_t (k : Str) (t d : Addr) : (rf k t d).lookup ("tests" : Str) = some (.ref t) := by
  unfold rf
  rw [lookup_putF, if_neg (by decide +kernel), lookup_putF, if_pos rfl]
theorem rf_d (k : Str) (t d : Addr) : (rf k t d).lookup ("deeds" : Str) = some (.ref d) := by
  unfold rf
  rw [lookup_putF, if_pos rfl]
theorem sum_small : ∀ (l : List Str) (n : Nat), (∀ x ∈ l, x.length ≤ n) → (l.map (·.length)).sum ≤ l.length * n
  | [], _, _ => Nat.zero_le _
  | x :: r, n, h => by
    have ih := sum_small r n fun y hy => h y (List.mem_cons_of_mem _ hy)
    have hx := h x (List.mem_cons_self ..)
    rw [List.map_cons, List.sum_cons, List.length_cons, Nat.succ_mul]
    omega
theorem join_len (sep : Str) : ∀ l : List Str, (Str.join sep l).length ≤ (l.map (·.length)).sum + l.length * sep.length
  | [] => Nat.zero_le _
  | [x] => by
    show x.length ≤ ([x].map (·.length)).sum + 1 * sep.length
    rw [List.map_cons, List.sum_cons]
    omega
  | x :: y :: r => by
    have ih := join_len sep (y :: r)
    show (x ++ sep ++ Str.join sep (y :: r)).length ≤ _
    rw [Str.length_append, Str.length_append, List.map_cons, List.sum_cons, List.length_cons, Nat.succ_mul]
    omega
theorem join_small {sep : Str} {l : List Str} (h : ∀ x ∈ l, x.length ≤ 16) (hs : sep.length ≤ 6) (hl : l.length ≤ 1000) : (l.map (·.length)).sum + l.length * sep.length ≤ 16777216 ∧ (Str.join sep l).length ≤ 30000 := by
  have h1 := sum_small l 16 h
  have h2 := join_len sep l
  have h3 : l.length * 16 ≤ 1000 * 16 := Nat.mul_le_mul_right _ hl
  have h4 : l.length * sep.length ≤ 1000 * 6 := Nat.mul_le_mul hl hs
  omega
def tText (ts : List Str) : Str := if ts = [] then "" else (" if " : Str) ++ Str.join " and " ts
def dText (ds : List Str) : Str := if ds = [] then "" else (" do " : Str) ++ Str.join " then " ds
def ruleText (r : RuleD) : Str := ("on " : Str) ++ r.k ++ tText r.ts ++ dText r.ds
theorem rule_text_eq (r : RuleD) : Str.join " " ((("on " : Str) ++ r.k) :: ((if r.ts = [] then [] else [("if " : Str) ++ Str.join " and " r.ts]) ++ (if r.ds = [] then [] else [("do " : Str) ++ Str.join " then " r.ds]))) = ruleText r := by
  have e1 : ∀ z : Str, (" " : Str) ++ (("if " : Str) ++ z) = (" if " : Str) ++ z := fun z => by
    rw [← Str.append_assoc]
    have : (" " : Str) ++ ("if " : Str) = (" if " : Str) := by decide +kernel
    rw [this]
  have e2 : ∀ z : Str, (" " : Str) ++ (("do " : Str) ++ z) = (" do " : Str) ++ z := fun z => by
    rw [← Str.append_assoc]
    have : (" " : Str) ++ ("do " : Str) = (" do " : Str) := by decide +kernel
    rw [this]
  have e0 : ("" : Str) = Str.empty := by decide +kernel
  unfold ruleText tText dText
  by_cases ht : r.ts = []
  · by_cases hd : r.ds = []
    · rw [if_pos ht, if_pos hd, if_pos ht, if_pos hd, e0, Str.append_empty, Str.append_empty]
      rfl
    · rw [if_pos ht, if_neg hd, if_pos ht, if_neg hd, e0, Str.append_empty]
      show ("on " : Str) ++ r.k ++ " " ++ (("do " : Str) ++ Str.join " then " r.ds) = _
      rw [Str.append_assoc, e2]
  · by_cases hd : r.ds = []
    · rw [if_neg ht, if_pos hd, if_neg ht, if_pos hd, e0, Str.append_empty]
      show ("on " : Str) ++ r.k ++ " " ++ (("if " : Str) ++ Str.join " and " r.ts) = _
      rw [Str.append_assoc, e1]
    · rw [if_neg ht, if_neg hd, if_neg ht, if_neg hd]
      show ("on " : Str) ++ r.k ++ " " ++ (("if " : Str) ++ Str.join " and " r.ts ++ " " ++ (("do " : Str) ++ Str.join " then " r.ds)) = _
      simp only [Str.append_assoc, e1, e2]
def spRuleEq (K : PySem.W.Frag) (C : Addr) : Sp := fun vs H Q _ => ∃ (p q : Addr) (r u : RuleD), vs = [.ref p, .ref q] ∧ RuleObj K C H p r ∧ RuleObj K C H q u ∧ r.Good ∧ u.Good ∧ ∀ H', Ex H H' → Q (.bl (decide (r.k = u.k) && (decide (r.ts = u.ts) && decide (r.ds = u.ds)))) H'
def spRuleStr (K : PySem.W.Frag) (C : Addr) : Sp := fun vs H Q _ => ∃ (p : Addr) (r : RuleD), vs = [.ref p] ∧ RuleObj K C H p r ∧ r.Good ∧ ∀ H', Ex H H' → Q (.str (ruleText r)) H'
theorem scRuleEq : FnScope ["self", "other"] ["self", "other"] (defScope sRuleEq) := ⟨rfl, rfl, rfl, by decide +kernel, rfl, by decide +kernel, by decide +kernel⟩
theorem scRuleStr : FnScope ["self", "parts"] ["self"] (defScope sRuleStr) := ⟨rfl, rfl, rfl, by decide +kernel, rfl, by decide +kernel, by decide +kernel⟩
theorem ok_rule_eq {f : Addr} {fd : FuncData} (F : Fun K "__eq__" "Rule.__eq__" sRuleEq f fd) (T : TxR K mg a_LETTERS a_LETTER_TESTS a_LETTER_DEEDS a_ANSWER_TESTS a_ANSWER_DEEDS CR tA tN) : FnOk P w K mg base CX0 1 f fd ["self", "other"] (spRuleEq K CR) := by
  refine F.ok scRuleEq (fun vs H Q E h => ?_) (fun cdv A outer s H vs Q E hr h => ?_)
  · obtain ⟨p, q, r, u, rfl, _⟩ := h
    rfl
  · obtain ⟨p, q, r, u, rfl, ⟨dx, t, d, hp, ht, hd⟩, ⟨dx2, t2, d2, hp2, ht2, hd2⟩, G, G2, k⟩ := h
    refine ⟨_, pss_one (ps_ret (pe_and (pe_callB call_isi (by rfl) T.n_isinstance (by decide +kernel) (pa_cons (pv 1) (pa_cons (pe_glob (v := .ref CR) rfl T.g_Rule rfl) pa_nil))) (pe_and (pe_cmpR op_eq (pe_fld (pv 0) rfl) (pe_fld (pv 1) rfl) (nomark _)) (pe_and (pe_cmpR (op_eqD hr.units) (pe_fld (pv 0) rfl) (pe_fld (pv 1) rfl) (nomark _)) (pe_one (pe_cmpR (op_eqD hr.units) (pe_fld (pv 0) rfl) (pe_fld (pv 1) rfl) (nomark _))))))), ?_⟩
    refine Evl.s_ret (v := .bl (true && (decide (r.k = u.k) && (decide (r.ts = u.ts) && decide (r.ds = u.ds))))) ?_ fun H2 e2 => k H2 e2
    refine Evl.ev_andV (ev_isi (Evl.ea_cons (Evl.ev_var rfl) (Evl.ea_cons Evl.ev_c Evl.ea_nil)) (.own CR) (fun H1 e1 => .base (.ins (e1 _ _ hp2) T.cl T.ci T.cs T.ct T.co)) (by simp [PySem.W.kitOne])) (fun _ => ?_)
    refine Evl.ev_andV (Evl.ev_is (Evl.ev_op (ev_fld (Evl.ev_var rfl) hp T.cl T.nK (rf_k _ _ _)) (ev_fld (Evl.ev_var rfl) hp2 T.cl T.nK (rf_k _ _ _)) (Evl.rv_eq (x := .str r.k) (y := .str u.k) rfl)) (by simp)) (fun _ => ?_)
    refine Evl.ev_andV (Evl.ev_op (ev_fld (Evl.ev_var rfl) hp T.cl T.nT (rf_t _ _ _)) (ev_fld (Evl.ev_var rfl) hp2 T.cl T.nT (rf_t _ _ _)) (rv_eqT G.pt G2.pt ht ht2)) (fun _ => ?_)
    exact Evl.ev_op (ev_fld (Evl.ev_var rfl) hp T.cl T.nD (rf_d _ _ _)) (ev_fld (Evl.ev_var rfl) hp2 T.cl T.nD (rf_d _ _ _)) (rv_eqT G.pd G2.pd hd hd2)
theorem ok_rule_str {f : Addr} {fd : FuncData} (F : Fun K "__str__" "Rule.__str__" sRuleStr f fd) (T : TxR K mg a_LETTERS a_LETTER_TESTS a_LETTER_DEEDS a_ANSWER_TESTS a_ANSWER_DEEDS CR tA tN) : FnOk P w K mg base CX0 1 f fd ["self"] (spRuleStr K CR) := by
  refine F.ok scRuleStr (fun vs H Q E h => ?_) (fun cdv A outer s H vs Q E hr h => ?_)
  · obtain ⟨p, r, rfl, _⟩ := h
    rfl
  · obtain ⟨p, r, rfl, ⟨dx, t, d, hp, ht, hd⟩, G, k⟩ := h
    refine ⟨_, pss_cons (ps_set (i := 1) scRuleStr.nd rfl (.inl rfl) (pe_lst (pa_cons (pe_joined (.cons pe_str (.cons (pe_fmt (pe_fld (pv 0) rfl)) .nil))) pa_nil)))
      (pss_cut (ps_if (pt_truth (pe_fld (pv 0) rfl) (by intro _; rfl)) (pss_one (ps_expr (pe_bm PySem.F.plainAttrs_list PySem.F.slot_list_append PySem.F.type_list_append mt_append (pv 1) (pa_cons (pe_op op_add_str pe_str (pe_join pe_str (pe_fld (pv 0) rfl))) pa_nil)))) pss_nil)
      (pss_cut (ps_if (pt_truth (pe_fld (pv 0) rfl) (by intro _; rfl)) (pss_one (ps_expr (pe_bm PySem.F.plainAttrs_list PySem.F.slot_list_append PySem.F.type_list_append mt_append (pv 1) (pa_cons (pe_op op_add_str pe_str (pe_join pe_str (pe_fld (pv 0) rfl))) pa_nil)))) pss_nil)
      (pss_one (ps_ret (pe_join pe_str (pv 1)))))), ?_⟩
    have lk := kinds_len G.k
    refine ⟨_, rfl, by decide, ?_⟩
    refine ⟨_, rfl, p, CR, dx, _, _, rfl, hp, T.cl, T.nK, rf_k _ _ _, .inl ⟨r.k, rfl, size_of (by omega), r.k, rfl, ?_, ?_⟩⟩
    · show (Str.empty ++ Str.ofString "on " ++ r.k).length ≤ sizeLine
      rw [Str.length_append]
      have e3 : (Str.empty ++ Str.ofString "on ").length = 3 := by decide +kernel
      exact size_of (by omega)
    refine ⟨by show 1 ≤ sizeLine; decide, fun l nl => ?_⟩
    have eo : Str.empty ++ Str.ofString "on " ++ r.k = ("on " : Str) ++ r.k := by rw [Str.empty_append]
    rw [eo]
    -- the tests
    have e2 : Ex H (upd H l (.lst [.str (("on " : Str) ++ r.k)])) := Ex.new nl
    let pT : List Str := if r.ts = [] then [] else [("if " : Str) ++ Str.join " and " r.ts]
    let pD : List Str := if r.ds = [] then [] else [("do " : Str) ++ Str.join " then " r.ds]
    refine ⟨fun σ H2 => σ = [some (.ref p), some (.ref l)] ∧ Ex H H2 ∧ H2 l = some (.lst (((("on " : Str) ++ r.k) :: pT).map V.str)), ?_, ?_⟩
    · refine ⟨_, rfl, p, CR, dx, _, _, rfl, e2 _ _ hp, T.cl, T.nT, rf_t _ _ _, !(r.ts.map V.str).isEmpty, .inr (.inl ⟨_, Evl.ex_t e2 ht, rfl⟩), ?_⟩
      by_cases h0 : r.ts = []
      · have hpT : pT = [] := if_pos h0
        rw [h0, hpT]
        exact iteF ⟨rfl, e2, upd_same⟩
      · have hpT : pT = [("if " : Str) ++ Str.join " and " r.ts] := if_neg h0
        rw [show (!(r.ts.map V.str).isEmpty) = true by simp [h0], hpT]
        refine iteT ?_
        have lj := join_small (sep := " and ") (l := r.ts) (fun x hx => testsNot_len (G.ts x hx)) (by decide) G.nt
        refine ⟨_, rfl, .inl ⟨rfl, _, SqL.of upd_same⟩, ⟨_, rfl⟩, _, rfl, p, CR, dx, _, _, rfl, e2 _ _ hp, T.cl, T.nT, rf_t _ _ _, _, t, r.ts, rfl, rfl, .inr (Evl.ex_t e2 ht), lj.1, _, _, rfl, rfl, ?_, l, _, _, rfl, rfl, upd_same, by show 1 < sizeLine; decide, ?_⟩
        · rw [TL.join_eq]
          have e3 : (Str.ofString "if ").length = 3 := by decide +kernel
          exact size_of (by omega)
        · rw [TL.join_eq]
          exact ⟨rfl, e2.mut nl, upd_same⟩
    · rintro σ H2 ⟨rfl, e3, hl⟩
      refine ⟨fun σ H3 => σ = [some (.ref p), some (.ref l)] ∧ Ex H H3 ∧ H3 l = some (.lst (((("on " : Str) ++ r.k) :: (pT ++ pD)).map V.str)), ?_, ?_⟩
      · refine ⟨_, rfl, p, CR, dx, _, _, rfl, e3 _ _ hp, T.cl, T.nD, rf_d _ _ _, !(r.ds.map V.str).isEmpty, .inr (.inl ⟨_, Evl.ex_t e3 hd, rfl⟩), ?_⟩
        by_cases h0 : r.ds = []
        · have hpD : pD = [] := if_pos h0
          rw [h0, hpD, List.append_nil]
          exact iteF ⟨rfl, e3, hl⟩
        · have hpD : pD = [("do " : Str) ++ Str.join " then " r.ds] := if_neg h0
          rw [show (!(r.ds.map V.str).isEmpty) = true by simp [h0], hpD]
          refine iteT ?_
          have lj := join_small (sep := " then ") (l := r.ds) (fun x hx => deedsOf_len (G.ds x hx)) (by decide) G.nd
          have lpT : pT.length ≤ 1 := by
            show (if r.ts = [] then [] else [("if " : Str) ++ Str.join " and " r.ts]).length ≤ 1
            split
            · decide
            · exact Nat.le_refl _
          refine ⟨_, rfl, .inl ⟨rfl, _, SqL.of hl⟩, ⟨_, rfl⟩, _, rfl, p, CR, dx, _, _, rfl, e3 _ _ hp, T.cl, T.nD, rf_d _ _ _, _, d, r.ds, rfl, rfl, .inr (Evl.ex_t e3 hd), lj.1, _, _, rfl, rfl, ?_, l, _, _, rfl, rfl, hl, ?_, ?_⟩
          · rw [TL.join_eq]
            have e3 : (Str.ofString "do ").length = 3 := by decide +kernel
            exact size_of (by omega)
          · rw [List.length_map, List.length_cons]
            exact small1000 (by omega)
          · rw [TL.join_eq]
            refine ⟨rfl, e3.mut nl, ?_⟩
            rw [upd_same, List.map_cons, List.map_cons, List.map_append]
            rfl
      · rintro σ H3 ⟨rfl, e4, hl⟩
        refine ⟨⟨_, rfl⟩, _, rfl, _, l, _, rfl, rfl, .inl (SqL.of hl), ?_, ?_⟩
        · show ((((("on " : Str) ++ r.k) :: (pT ++ pD))).map (·.length)).sum + (((("on " : Str) ++ r.k) :: (pT ++ pD))).length * (Str.ofString " ").length ≤ 16777216
          have h1 : ∀ x ∈ ((("on " : Str) ++ r.k) :: (pT ++ pD)), x.length ≤ 40000 := by
            intro x hx
            rcases List.mem_cons.mp hx with rfl | hx
            · rw [Str.length_append]
              have e3 : (Str.ofString "on ").length = 3 := by decide +kernel
              omega
            · rcases List.mem_append.mp hx with hx | hx
              · have hx' : x ∈ (if r.ts = [] then [] else [("if " : Str) ++ Str.join " and " r.ts] : List Str) := hx
                split at hx'
                · cases hx'
                · rw [List.mem_singleton.mp hx', Str.length_append]
                  have lj := join_small (sep := " and ") (l := r.ts) (fun x hx => testsNot_len (G.ts x hx)) (by decide) G.nt
                  have e3 : (Str.ofString "if ").length = 3 := by decide +kernel
                  omega
              · have hx' : x ∈ (if r.ds = [] then [] else [("do " : Str) ++ Str.join " then " r.ds] : List Str) := hx
                split at hx'
                · cases hx'
                · rw [List.mem_singleton.mp hx', Str.length_append]
                  have lj := join_small (sep := " then ") (l := r.ds) (fun x hx => deedsOf_len (G.ds x hx)) (by decide) G.nd
                  have e3 : (Str.ofString "do ").length = 3 := by decide +kernel
                  omega
          have h2 := sum_small _ 40000 h1
          have h3 : (((("on " : Str) ++ r.k) :: (pT ++ pD))).length ≤ 3 := by
            have a1 : pT.length ≤ 1 := by
              show (if r.ts = [] then [] else [("if " : Str) ++ Str.join " and " r.ts] : List Str).length ≤ 1
              split
              · decide
              · exact Nat.le_refl _
            have a2 : pD.length ≤ 1 := by
              show (if r.ds = [] then [] else [("do " : Str) ++ Str.join " then " r.ds] : List Str).length ≤ 1
              split
              · decide
              · exact Nat.le_refl _
            rw [List.length_cons, List.length_append]
            omega
          have e1 : (Str.ofString " ").length = 1 := by decide +kernel
          rw [e1]
          omega
        · rw [TL.join_eq]
          have e : Str.join " " ((("on " : Str) ++ r.k) :: (pT ++ pD)) = ruleText r := rule_text_eq r
          rw [e]
          exact k H3 e4
/-! ### a drawn rule's text, by the law's own words -/
def spRuleText (K : PySem.W.Frag) : Sp := fun vs H Q _ => ∃ (p t d : Addr) (r : RuleD), vs = [.ref p] ∧ SqT K H p [.str r.k, .ref t, .ref d] ∧ SqT K H t (r.ts.map V.str) ∧ SqT K H d (r.ds.map V.str) ∧ r.Good ∧ ∀ H', Ex H H' → Q (.str (ruleText r)) H'
theorem scRuleText : FnScope ["_law_rule", "_law_text_here"] ["_law_rule"] (defScope sRuleText) := ⟨rfl, rfl, rfl, by decide +kernel, rfl, by decide +kernel, by decide +kernel⟩
theorem tText_len {ts : List Str} (h : ∀ x ∈ ts, x.length ≤ 16) (hl : ts.length ≤ 1000) : (tText ts).length ≤ 30010 := by
  unfold tText
  split
  · decide
  · have lj := join_small (sep := " and ") h (by decide) hl
    rw [Str.length_append]
    have e3 : (Str.ofString " if ").length = 4 := by decide +kernel
    omega
theorem dText_len {ds : List Str} (h : ∀ x ∈ ds, x.length ≤ 16) (hl : ds.length ≤ 1000) : (dText ds).length ≤ 30010 := by
  unfold dText
  split
  · decide
  · have lj := join_small (sep := " then ") h (by decide) hl
    rw [Str.length_append]
    have e3 : (Str.ofString " do ").length = 4 := by decide +kernel
    omega
theorem ok_rule_text {f : Addr} {fd : FuncData} (F : Fun K "_law_rule_text" "_law_rule_text" sRuleText f fd) : FnOk P w K mg base CX0 1 f fd ["_law_rule"] (spRuleText K) := by
  refine F.ok scRuleText (fun vs H Q E h => ?_) (fun cdv A outer s H vs Q E hr h => ?_)
  · obtain ⟨p, t, d, r, rfl, _⟩ := h
    rfl
  · obtain ⟨p, t, d, r, rfl, hp, ht, hd, G, k⟩ := h
    refine ⟨_, pss_cons (ps_set (i := 1) scRuleText.nd rfl (.inl rfl) (pe_op op_add_str (pe_op op_add_str pe_str (pe_ix ix_tup (pv 0) pe_int (fun _ _ => rfl))) (pe_ifExp (pt_cmpR (op_neD hr.units) (pe_ix ix_tup (pv 0) pe_int (fun _ _ => rfl)) (pe_tup pa_nil) (nomark _)) (pe_op op_add_str pe_str (pe_join pe_str (pe_ix ix_tup (pv 0) pe_int (fun _ _ => rfl)))) pe_str)))
      (pss_one (ps_ret (pe_op op_add_str (pv 1) (pe_ifExp (pt_cmpR (op_neD hr.units) (pe_ix ix_tup (pv 0) pe_int (fun _ _ => rfl)) (pe_tup pa_nil) (nomark _)) (pe_op op_add_str pe_str (pe_join pe_str (pe_ix ix_tup (pv 0) pe_int (fun _ _ => rfl)))) pe_str)))), ?_⟩
    have lk := kinds_len G.k
    have lt := tText_len (fun x hx => testsNot_len (G.ts x hx)) G.nt
    have ld := dText_len (fun x hx => deedsOf_len (G.ds x hx)) G.nd
    have jt := join_small (sep := " and ") (fun x hx => testsNot_len (G.ts x hx)) (by decide) G.nt
    have jd := join_small (sep := " then ") (fun x hx => deedsOf_len (G.ds x hx)) (by decide) G.nd
    have n3 : (Str.ofString "on ").length = 3 := by decide +kernel
    have n4 : (Str.ofString " if ").length = 4 := by decide +kernel
    have n5 : (Str.ofString " do ").length = 4 := by decide +kernel
    have no : Plain ([] : List Str) := fun x hx => nomatch hx
    refine Evl.q_asg (v := .str (("on " : Str) ++ r.k ++ tText r.ts)) ?_ fun H1 e1 => ?_
    · refine ev_adds (ev_adds Evl.ev_c (ev_ixT (j := 0) (Evl.ev_var rfl) Evl.ev_c hp rfl) (size_of (by omega))) ?_ (size_of (by rw [Str.length_append]; omega))
      refine Evl.ev_if (b := !decide (r.ts = [])) (Evl.et_test (Evl.ev_opU (ev_ixT (j := 1) (Evl.ev_var rfl) Evl.ev_c hp rfl) (Evl.eu_tup Evl.ea_nil (Nat.zero_le _)) fun q H2 hq e2 => rv_neT G.pt no (Evl.ex_t e2 ht) (Evl.st_of hq))) (fun hb => ?_) (fun hb => ?_)
      · have h0 : ¬ r.ts = [] := fun z => by
          rw [z] at hb
          cases hb
        unfold tText
        rw [if_neg h0]
        exact ev_adds Evl.ev_c (ev_join Evl.ev_c (ev_ixT (j := 1) (Evl.ev_var rfl) Evl.ev_c hp rfl) (.inr ht) jt.1) (size_of (by omega))
      · have h0 : r.ts = [] := by simpa using hb
        unfold tText
        rw [if_pos h0]
        exact Evl.ev_c
    · refine Evl.s_ret (v := .str (ruleText r)) ?_ fun H2 e2 => k H2 (e1.trans e2)
      refine ev_adds (Evl.ev_var rfl) ?_ (size_of (by rw [Str.length_append, Str.length_append]; omega))
      refine Evl.ev_if (b := !decide (r.ds = [])) (Evl.et_test (Evl.ev_opU (ev_ixT (j := 2) (Evl.ev_var rfl) Evl.ev_c (Evl.ex_t e1 hp) rfl) (Evl.eu_tup Evl.ea_nil (Nat.zero_le _)) fun q H2 hq e2 => rv_neT G.pd no (Evl.ex_t (e1.trans e2) hd) (Evl.st_of hq))) (fun hb => ?_) (fun hb => ?_)
      · have h0 : ¬ r.ds = [] := fun z => by
          rw [z] at hb
          cases hb
        unfold dText
        rw [if_neg h0]
        exact ev_adds Evl.ev_c (ev_join Evl.ev_c (ev_ixT (j := 2) (Evl.ev_var rfl) Evl.ev_c (Evl.ex_t e1 hp) rfl) (.inr (Evl.ex_t e1 hd)) jd.1) (size_of (by omega))
      · have h0 : r.ds = [] := by simpa using hb
        unfold dText
        rw [if_pos h0]
        exact Evl.ev_c
end
end Ov


namespace Ov
open PySem L2 TL
/-! ### texts are read back: no separator begins within what stands ahead of it -/
/-- nowhere in l do these three signs stand -/
def clean3 (s a b : Nat) : List Nat → Bool
  | [] => true
  | x :: r => !(pre [s, a, b] (x :: r)) && clean3 s a b r
theorem clean3_at {s a b : Nat} : ∀ {l : List Nat}, clean3 s a b l = true → ∀ i, pre [s, a, b] (l.drop i) = false
  | [], _, i => by
    rw [List.drop_nil]
    rfl
  | x :: r, h, 0 => by
    have h1 := (Bool.and_eq_true_iff.mp h).1
    simpa using h1
  | x :: r, h, i + 1 => clean3_at (l := r) (Bool.and_eq_true_iff.mp h).2 i
theorem pre3 {s a b : Nat} {l : List Nat} : pre [s, a, b] l = true ↔ ∃ r, l = s :: a :: b :: r := by
  unfold pre
  constructor
  · intro h
    have e : l.take 3 = [s, a, b] := eq_of_beq h
    exact ⟨l.drop 3, by rw [← List.take_append_drop 3 l, e]; simp⟩
  · rintro ⟨r, rfl⟩
    simp
/-- what begins with the separator's first sign may stand behind -/
theorem clean3_app {s a b : Nat} (ha : a ≠ s) (hb : b ≠ s) : ∀ {x y : List Nat}, clean3 s a b x = true → clean3 s a b y = true → (y = [] ∨ ∃ z, y = s :: z) → clean3 s a b (x ++ y) = true
  | [], y, _, hy, _ => hy
  | c :: x, y, hx, hy, h => by
    obtain ⟨h1, h2⟩ := Bool.and_eq_true_iff.mp hx
    have ih := clean3_app ha hb h2 hy h
    show (!(pre [s, a, b] (c :: (x ++ y))) && clean3 s a b (x ++ y)) = true
    rw [ih, Bool.and_true, Bool.not_eq_true']
    cases hp : pre [s, a, b] (c :: (x ++ y)) with
    | false => rfl
    | true =>
      exfalso
      obtain ⟨r, e⟩ := pre3.mp hp
      have h1' : pre [s, a, b] (c :: x) = false := by simpa using h1
      rcases h with rfl | ⟨z, rfl⟩
      · rw [List.append_nil] at hp
        rw [hp] at h1'
        cases h1'
      · match x, e with
        | [], e =>
          injection e with _ e
          injection e with e _
          exact ha e.symm
        | [d], e =>
          injection e with _ e
          injection e with _ e
          injection e with e _
          exact hb e.symm
        | d :: g :: x, e =>
          injection e with e1 e
          injection e with e2 e
          injection e with e3 e
          have : pre [s, a, b] (c :: d :: g :: x) = true := pre3.mpr ⟨x, by rw [e1, e2, e3]⟩
          rw [this] at h1'
          cases h1'
theorem pre_of3 {s a b : Nat} {S l : List Nat} (h : pre (s :: a :: b :: S) l = true) : pre [s, a, b] l = true := by
  unfold pre at h
  have e := eq_of_beq h
  have e2 : l = (s :: a :: b :: S) ++ l.drop (s :: a :: b :: S).length := by
    have q := (List.take_append_drop (s :: a :: b :: S).length l).symm
    rw [e] at q
    exact q
  exact pre3.mpr ⟨_, by rw [e2]; rfl⟩
/-- no separator begins within p, whatever stands behind it -/
theorem free3 {s a b : Nat} {S p rest : List Nat} (ha : a ≠ s) (hb : b ≠ s) (h : clean3 s a b p = true) : ∀ i, i < p.length → pre (s :: a :: b :: S) ((p ++ ((s :: a :: b :: S) ++ rest)).drop i) = false := by
  intro i hi
  cases hp : pre (s :: a :: b :: S) ((p ++ ((s :: a :: b :: S) ++ rest)).drop i) with
  | false => rfl
  | true =>
    exfalso
    obtain ⟨r, e⟩ := pre3.mp (pre_of3 hp)
    rw [List.drop_append_of_le_length (by omega)] at e
    have hc := clean3_at h i
    match hd : p.drop i, e with
    | [], _ =>
      have := congrArg List.length hd
      rw [List.length_drop, List.length_nil] at this
      omega
    | [c], e =>
      injection e with _ e
      injection e with e _
      exact ha e.symm
    | [c, d], e =>
      injection e with _ e
      injection e with _ e
      injection e with e _
      exact hb e.symm
    | c :: d :: g :: x, e =>
      injection e with e1 e
      injection e with e2 e
      injection e with e3 e
      rw [hd, pre3.mpr ⟨x, by rw [e1, e2, e3]⟩] at hc
      cases hc
theorem free3_end {s a b : Nat} {S p : List Nat} (h : clean3 s a b p = true) : ∀ i, i < p.length → pre (s :: a :: b :: S) (p.drop i) = false := by
  intro i _
  cases hp : pre (s :: a :: b :: S) (p.drop i) with
  | false => rfl
  | true =>
    have h1 := pre_of3 hp
    rw [clean3_at h i] at h1
    cases h1
theorem partition3 {y : Str} {s a b : Nat} {S : List Nat} (ey : tl y = s :: a :: b :: S) (ha : a ≠ s) (hb : b ≠ s) {x z : Str} (h : clean3 s a b (tl x) = true) : Txt.partition (x ++ y ++ z) y = (x, y, z) := by
  rw [partition_par _ y (by rw [ey]; simp), tl_append, tl_append, List.append_assoc, ey, par_part (by simp) (free3 ha hb h)]
  show ((⟨([] ++ tl x).toArray⟩ : Str), y, (⟨(tl z).toArray⟩ : Str)) = _
  rw [List.nil_append, mk_tl, mk_tl]
theorem partition3_none {y : Str} {s a b : Nat} {S : List Nat} (ey : tl y = s :: a :: b :: S) {x : Str} (h : clean3 s a b (tl x) = true) : Txt.partition x y = (x, Str.empty, Str.empty) := by
  rw [partition_par _ y (by rw [ey]; simp), ey, par_none (free3_end h)]
theorem spl_join3 {s a b : Nat} {S : List Nat} (ha : a ≠ s) (hb : b ≠ s) : ∀ {parts : List (List Nat)}, parts ≠ [] → (∀ p ∈ parts, clean3 s a b p = true) → spl (s :: a :: b :: S) 0 [] (joinL (s :: a :: b :: S) parts) = parts
  | [], h, _ => absurd rfl h
  | [p], _, hp => by
    show spl (s :: a :: b :: S) 0 [] p = [p]
    rw [spl_last (free3_end (hp p (List.mem_singleton.mpr rfl))), List.nil_append]
  | p :: q :: r, _, hp => by
    show spl (s :: a :: b :: S) 0 [] (p ++ (s :: a :: b :: S ++ joinL (s :: a :: b :: S) (q :: r))) = p :: q :: r
    rw [spl_part (by simp) (free3 ha hb (hp p (List.mem_cons_self ..))), List.nil_append, spl_join3 ha hb (by simp) fun z hz => hp z (List.mem_cons_of_mem _ hz)]
theorem split_join3 {y : Str} {s a b : Nat} {S : List Nat} (ey : tl y = s :: a :: b :: S) (ha : a ≠ s) (hb : b ≠ s) (hk : y.cps.all (· < 256) = true) {parts : List Str} (hne : parts ≠ []) (hp : ∀ p ∈ parts, clean3 s a b (tl p) = true) :
    Txt.split (Str.join y parts) y = parts := by
  refine map_tl_inj ?_
  rw [split_spl _ y (by rw [ey]; simp) (kind_ok hk), tl_join, ey]
  refine spl_join3 ha hb (fun e => hne (List.map_eq_nil_iff.mp e)) fun p h => ?_
  obtain ⟨z, hz, rfl⟩ := List.mem_map.mp h
  exact hp z hz
/-- a joined text behind a word, part by part -/
theorem join_clean {s a b : Nat} (ha : a ≠ s) (hb : b ≠ s) (hd sep : Str) {S1 S2 : List Nat} (e1 : tl hd = s :: S1) (e2 : tl sep = s :: S2) : ∀ (l : List Str), (∀ x ∈ l, clean3 s a b (tl (hd ++ x)) = true) → (∀ x ∈ l, clean3 s a b (tl (sep ++ x)) = true) → l ≠ [] →
    clean3 s a b (tl (hd ++ Str.join sep l)) = true
  | [], _, _, h => absurd rfl h
  | [x], h1, _, _ => h1 x (List.mem_singleton.mpr rfl)
  | x :: y :: r, h1, h2, _ => by
    show clean3 s a b (tl (hd ++ (x ++ sep ++ Str.join sep (y :: r)))) = true
    have e : hd ++ (x ++ sep ++ Str.join sep (y :: r)) = (hd ++ x) ++ (sep ++ Str.join sep (y :: r)) := by simp only [Str.append_assoc]
    rw [e, tl_append]
    refine clean3_app ha hb (h1 x (List.mem_cons_self ..)) (join_clean ha hb sep sep e2 e2 (y :: r) (fun z hz => h2 z (List.mem_cons_of_mem _ hz)) (fun z hz => h2 z (List.mem_cons_of_mem _ hz)) (by simp)) (.inr ⟨S2 ++ tl (Str.join sep (y :: r)), ?_⟩)
    rw [tl_append, e2]
    rfl

/-! ### a good rule's text -/
def allTests : List Str := testsL ++ testsL.map (("not " : Str) ++ ·) ++ (["level", "not level"] : List Str)
theorem tests_all {k t : Str} (h : t ∈ testsNot k) : t ∈ allTests := by
  have h2 : ∀ t ∈ (["level"] : List Str) ++ (["level"] : List Str).map (("not " : Str) ++ ·), t ∈ allTests := by decide +kernel
  unfold testsNot testsOf at h
  split at h
  · exact h2 t h
  · exact List.mem_append_left _ h
def allDeeds : List Str := ["count", "drop", "take", "wipe"]
theorem deeds_all {k t : Str} (h : t ∈ deedsOf k) : t ∈ allDeeds := by
  have h1 : ∀ t ∈ (["count", "count", "drop"] : List Str), t ∈ allDeeds := by decide +kernel
  have h2 : ∀ t ∈ (["take", "take", "wipe"] : List Str), t ∈ allDeeds := by decide +kernel
  unfold deedsOf at h
  split at h
  · exact h1 t h
  · exact h2 t h
theorem tl_do : tl " do " = [32, 100, 111, 32] := by decide +kernel
theorem tl_if : tl " if " = [32, 105, 102, 32] := by decide +kernel
theorem tl_and : tl " and " = [32, 97, 110, 100, 32] := by decide +kernel
theorem tl_then : tl " then " = [32, 116, 104, 101, 110, 32] := by decide +kernel
theorem tText_clean {ts : List Str} (h : ∀ t ∈ ts, t ∈ allTests) : clean3 32 100 111 (tl (tText ts)) = true ∧ (tl (tText ts) = [] ∨ ∃ z, tl (tText ts) = 32 :: z) := by
  unfold tText
  split
  · exact ⟨by decide +kernel, .inl (by decide +kernel)⟩
  · rename_i h0
    have a1 : ∀ t ∈ allTests, clean3 32 100 111 (tl ((" if " : Str) ++ t)) = true := by decide +kernel
    have a2 : ∀ t ∈ allTests, clean3 32 100 111 (tl ((" and " : Str) ++ t)) = true := by decide +kernel
    refine ⟨join_clean (by decide) (by decide) " if " " and " tl_if tl_and ts (fun x hx => a1 x (h x hx)) (fun x hx => a2 x (h x hx)) h0, .inr ⟨105 :: 102 :: 32 :: tl (Str.join " and " ts), ?_⟩⟩
    rw [tl_append, tl_if]
    rfl
theorem read1 {r : RuleD} (g : r.Good) : Txt.partition (ruleText r) " do " = ((("on " : Str) ++ r.k ++ tText r.ts, (if r.ds = [] then "" else " do " : Str), (if r.ds = [] then ("" : Str) else Str.join " then " r.ds)) : Str × Str × Str) := by
  have k1 : ∀ k ∈ kindsAll, clean3 32 100 111 (tl (("on " : Str) ++ k)) = true := by decide +kernel
  have ht := tText_clean (ts := r.ts) fun t h => tests_all (g.ts t h)
  have hc : clean3 32 100 111 (tl (("on " : Str) ++ r.k ++ tText r.ts)) = true := by
    rw [tl_append]
    exact clean3_app (by decide) (by decide) (k1 _ g.k) ht.1 ht.2
  have e0 : ("" : Str) = Str.empty := by decide +kernel
  unfold ruleText dText
  by_cases hd : r.ds = []
  · rw [if_pos hd, if_pos hd, if_pos hd, e0, Str.append_empty]
    exact partition3_none tl_do hc
  · rw [if_neg hd, if_neg hd, if_neg hd, ← Str.append_assoc]
    exact partition3 tl_do (by decide) (by decide) hc
theorem read2 {r : RuleD} (g : r.Good) : Txt.partition (("on " : Str) ++ r.k ++ tText r.ts) " if " = ((("on " : Str) ++ r.k, (if r.ts = [] then "" else " if " : Str), (if r.ts = [] then ("" : Str) else Str.join " and " r.ts)) : Str × Str × Str) := by
  have k1 : ∀ k ∈ kindsAll, clean3 32 105 102 (tl (("on " : Str) ++ k)) = true := by decide +kernel
  have e0 : ("" : Str) = Str.empty := by decide +kernel
  unfold tText
  by_cases ht : r.ts = []
  · rw [if_pos ht, if_pos ht, if_pos ht, e0, Str.append_empty]
    exact partition3_none tl_if (k1 _ g.k)
  · rw [if_neg ht, if_neg ht, if_neg ht, ← Str.append_assoc]
    exact partition3 tl_if (by decide) (by decide) (k1 _ g.k)
theorem read3 (k : Str) : Txt.partition (("on " : Str) ++ k) " " = ((("on" : Str), (" " : Str), k) : Str × Str × Str) := by
  have e : ("on " : Str) = ("on" : Str) ++ " " := by decide +kernel
  rw [e]
  exact partition_app (s := 32) (S := []) (by decide +kernel) (by decide +kernel)
theorem read4 {r : RuleD} (g : r.Good) (h : r.ts ≠ []) : Txt.split (Str.join " and " r.ts) " and " = r.ts := by
  have a1 : ∀ t ∈ allTests, clean3 32 97 110 (tl t) = true := by decide +kernel
  exact split_join3 tl_and (by decide) (by decide) (by decide +kernel) h fun p hp => a1 p (tests_all (g.ts p hp))
theorem read5 {r : RuleD} (g : r.Good) (h : r.ds ≠ []) : Txt.split (Str.join " then " r.ds) " then " = r.ds := by
  have a1 : ∀ t ∈ allDeeds, clean3 32 116 104 (tl t) = true := by decide +kernel
  exact split_join3 tl_then (by decide) (by decide) (by decide +kernel) h fun p hp => a1 p (deeds_all (g.ds p hp))
/-- texts of two good rules are alike only if the rules are -/
theorem ruleText_inj {r u : RuleD} (g : r.Good) (g2 : u.Good) (e : ruleText r = ruleText u) : r.k = u.k ∧ r.ts = u.ts ∧ r.ds = u.ds := by
  have p1 := read1 g
  rw [e, read1 g2] at p1
  injection p1 with a1 p1
  injection p1 with b1 c1
  have p2 := read2 g
  rw [← a1, read2 g2] at p2
  injection p2 with a2 p2
  injection p2 with b2 c2
  have p3 := read3 r.k
  rw [← a2, read3] at p3
  injection p3 with _ p3
  injection p3 with _ a3
  have n1 : ¬ (("" : Str) = " do ") := by decide +kernel
  have n2 : ¬ (("" : Str) = " if ") := by decide +kernel
  refine ⟨a3.symm, ?_, ?_⟩
  · by_cases h1 : r.ts = []
    · by_cases h2 : u.ts = []
      · rw [h1, h2]
      · rw [if_pos h1, if_neg h2] at b2
        exact absurd b2.symm n2
    · by_cases h2 : u.ts = []
      · rw [if_neg h1, if_pos h2] at b2
        exact absurd b2 n2
      · rw [if_neg h1, if_neg h2] at c2
        rw [← read4 g h1, ← c2, read4 g2 h2]
  · by_cases h1 : r.ds = []
    · by_cases h2 : u.ds = []
      · rw [h1, h2]
      · rw [if_pos h1, if_neg h2] at b1
        exact absurd b1.symm n1
    · by_cases h2 : u.ds = []
      · rw [if_neg h1, if_pos h2] at b1
        exact absurd b1 n1
      · rw [if_neg h1, if_neg h2] at c1
        rw [← read5 g h1, ← c1, read5 g2 h2]
end Ov


namespace Ov
open PySem PySem.Spec PyProof.Rows L2
open Evl (pss_cut tCut Ex Ev EvT EvL EvA EvU)
def lettersL : List Str := ["ask", "day", "off", "stop"]
/-- the items are Rules, one for each of rs -/
def RulesAt (K : PySem.W.Frag) (C : Addr) (H : Hp) (xs : List V) (rs : List RuleD) : Prop := Paired (fun x r => ∃ p, x = V.ref p ∧ RuleObj K C H p r) xs rs
theorem RulesAt.ex {K : PySem.W.Frag} {C : Addr} {H H' : Hp} (e : Ex H H') : ∀ {xs : List V} {rs : List RuleD}, RulesAt K C H xs rs → RulesAt K C H' xs rs
  | _, _, .nil => .nil
  | _, _, .cons ⟨p, h1, h2⟩ t => .cons ⟨p, h1, h2.ex e⟩ (RulesAt.ex e t)
theorem RulesAt.at_ {K : PySem.W.Frag} {C : Addr} {H : Hp} : ∀ {xs : List V} {rs : List RuleD} {i : Nat} {x : V}, RulesAt K C H xs rs → xs[i]? = some x → ∃ p r, x = .ref p ∧ rs[i]? = some r ∧ RuleObj K C H p r
  | _, _, _, _, .nil, h => by simp at h
  | _, _, 0, _, .cons ⟨p, h1, h2⟩ _, h => by
    have e := Option.some.inj h
    exact ⟨p, _, by rw [← e, h1], rfl, h2⟩
  | _, _, i + 1, _, .cons _ t, h => RulesAt.at_ (i := i) t h
structure TxP (K : PySem.W.Frag) (mg : Str → Option Value) (CP : Addr) : Prop where
  g_Plan : mg "Plan" = some (.ref CP)
  n_sorted : mg "sorted" = none
  n_set : mg "set" = none
  n_bool : mg "bool" = none
  n_isinstance : mg "isinstance" = none
  n_int : mg "int" = none
  n_len : mg "len" = none
  n_tuple : mg "tuple" = none
  cl : Cls K CP
  nR : NoAttr K CP "raises"
  nU : NoAttr K CP "rules"
def pf (a b : Addr) : List (Str × V) := putF "rules" (.ref b) (putF "raises" (.ref a) [])
theorem pf_raises (a b : Addr) : (pf a b).lookup ("raises" : Str) = some (.ref a) := by
  unfold pf
  rw [lookup_putF, if_neg (by decide +kernel), lookup_putF, if_pos rfl]
theorem pf_rules (a b : Addr) : (pf a b).lookup ("rules" : Str) = some (.ref b) := by
  unfold pf
  rw [lookup_putF, if_pos rfl]
/-- at p a Plan of the class at CP, of these kinds and Rules -/
def PlanObj (K : PySem.W.Frag) (CP : Addr) (H : Hp) (p : Addr) (ks : List Str) (xs : List V) : Prop := ∃ dx a b : Addr, H p = some (.ins CP dx (pf a b)) ∧ SqT K H a (ks.map V.str) ∧ SqT K H b xs
def spAreRaises1 (K : PySem.W.Frag) : Sp := fun vs H Q _ => ∃ (a : Addr) (ks : List Str), vs = [.ref a] ∧ (SqL K H a (ks.map V.str) ∨ SqT K H a (ks.map V.str)) ∧ ks.length ≤ 1 ∧ (∀ k ∈ ks, k ∈ lettersL) ∧ ∀ H', Ex H H' → Q (.bl true) H'
def spAreRules (K : PySem.W.Frag) (CR : Addr) : Sp := fun vs H Q _ => ∃ (a : Addr) (xs : List V) (rs : List RuleD), vs = [.ref a] ∧ (SqL K H a xs ∨ SqT K H a xs) ∧ RulesAt K CR H xs rs ∧ xs.length ≤ 1000 ∧ ∀ H', Ex H H' → Q (.bl true) H'
def spPlanInit1 (K : PySem.W.Frag) (CR CP : Addr) : Sp := fun vs H Q _ => ∃ (p a b dx : Addr) (ks : List Str) (xs : List V) (rs : List RuleD), vs = [.ref p, .ref a, .ref b] ∧ H p = some (.ins CP dx []) ∧ (SqL K H a (ks.map V.str) ∨ SqT K H a (ks.map V.str)) ∧ ks.length ≤ 1 ∧ (∀ k ∈ ks, k ∈ lettersL) ∧
  (SqL K H b xs ∨ SqT K H b xs) ∧ RulesAt K CR H xs rs ∧ xs.length ≤ 1000 ∧ ∀ H', (∀ c o, c ≠ p → H c = some o → H' c = some o) → PlanObj K CP H' p ks xs → Q .non H'
def spIsInteger : Sp := fun vs H Q _ => ∃ i : Int, vs = [.int i] ∧ Q (.bl true) H
def spIsPlace : Sp := fun vs H Q _ => ∃ i n : Int, vs = [.int i, .int n] ∧ Q (.bl (decide (0 ≤ i) && decide (i < n))) H
def spPlanItem (K : PySem.W.Frag) (CP : Addr) : Sp := fun vs H Q _ => ∃ (p : Addr) (ks : List Str) (xs : List V) (i : Nat) (x : V), vs = [.ref p, .int (i : Int)] ∧ PlanObj K CP H p ks xs ∧ xs[i]? = some x ∧ Q x H
theorem perm_le1 : ∀ {ks ys : List Str}, ks.length ≤ 1 → ys.Perm ks → ys = ks
  | [], _, _, h => List.perm_nil.mp h
  | [_], _, _, h => List.perm_singleton.mp h
  | _ :: _ :: _, _, h, _ => absurd h (by simp)
section
variable {P : Program} {w : World} {K : PySem.W.Frag} {mg : Str → Option Value} {base : Heap} {a_LETTERS a_LETTER_TESTS a_LETTER_DEEDS a_ANSWER_TESTS a_ANSWER_DEEDS CR CP : Addr} {tA tN : Tok}
theorem scAreRaises : FnScope ["value", "kind"] ["value"] (defScope sAreRaises) := ⟨rfl, rfl, rfl, by decide +kernel, rfl, by decide +kernel, by decide +kernel⟩
theorem scAreRules : FnScope ["value", "rule"] ["value"] (defScope sAreRules) := ⟨rfl, rfl, rfl, by decide +kernel, rfl, by decide +kernel, by decide +kernel⟩
theorem scPlanInit : FnScope ["self", "raises", "rules"] ["self", "raises", "rules"] (defScope sPlanInit) := ⟨rfl, rfl, rfl, by decide +kernel, rfl, by decide +kernel, by decide +kernel⟩
theorem scIsInteger : FnScope ["value"] ["value"] (defScope sIsInteger) := ⟨rfl, rfl, rfl, by decide +kernel, rfl, by decide +kernel, by decide +kernel⟩
theorem scIsPlace : FnScope ["value", "many"] ["value", "many"] (defScope sIsPlace) := ⟨rfl, rfl, rfl, by decide +kernel, rfl, by decide +kernel, by decide +kernel⟩
theorem scPlanGetitem : FnScope ["self", "at"] ["self", "at"] (defScope sPlanGetitem) := ⟨rfl, rfl, rfl, by decide +kernel, rfl, by decide +kernel, by decide +kernel⟩
theorem exB {H H' : Hp} {a : Addr} {xs : List V} (e : Ex H H') (h : SqL K H a xs ∨ SqT K H a xs) : SqL K H' a xs ∨ SqT K H' a xs := h.imp (Evl.ex_l e) (Evl.ex_t e)
theorem ok_are_raises1 {f fSeq : Addr} {fd fdSeq : FuncData} (F : Fun K "are_raises" "are_raises" sAreRaises f fd) (T : TxR K mg a_LETTERS a_LETTER_TESTS a_LETTER_DEEDS a_ANSWER_TESTS a_ANSWER_DEEDS CR tA tN) (n_set : mg "set" = none) (D_is_sequence : Df K mg "is_sequence" sIsSequence ["value"] fSeq fdSeq) :
    FnOk P w K mg base CX0 2 f fd ["value"] (spAreRaises1 K) := by
  have G_is_sequence : FnOk P w K mg base CX0 1 fSeq fdSeq ["value"] (spIsSeq K) := ok_is_sequence D_is_sequence.F T
  refine F.ok scAreRaises (fun vs H Q E h => ?_) (fun cdv A outer s H vs Q E hr h => ?_)
  · obtain ⟨a, ks, rfl, _⟩ := h
    rfl
  · obtain ⟨a, ks, rfl, hS, hl, hk, q⟩ := h
    refine ⟨_, pss_cons (ps_if (PW.pt (pw_or (pt_not (pt_val (pe_call G_is_sequence (hr.mono (by decide)) rfl D_is_sequence.g D_is_sequence.F.kp D_is_sequence.b .nil pass0 (pa_cons (pv 0) pa_nil)))) (pw_or1 (pt_not (pt_val (pe_callB (cr_all rfl) (by rfl) T.n_all (by decide +kernel) (pa_cons (pe_lc (own := [("kind", 1)]) (g := gName 1) (tt := tYes) rfl scAreRaises.nd (pi_both (pv 0)) (blkOk_by (own := [("kind", 1)]) (N := ["value", "kind"]) (sc := defScope sAreRaises) (by decide +kernel)) (fun _ _ _ _ _ => (pg_name (i := 1) scAreRaises.nd rfl (Or.inl rfl))) (fun _ _ _ _ _ => pts_nil) (fun _ _ _ _ _ => (pe_cmpR (r := rIn K false) op_in_seq (pv 1) (pe_glob (v := .ref a_LETTERS) rfl T.g_LETTERS rfl) (by rfl)))) pa_nil))))))) (pss_one (ps_ret pe_bl)) pss_nil)
      (pss_one (ps_ret (pe_cmpR op_eq (pe_lenSet rfl rfl T.n_len rfl n_set (pv 0)) (pe_callB call_len_seq (by rfl) T.n_len (by decide +kernel) (pa_cons (pv 0) pa_nil)) (nomark _)))), ?_⟩
    have lT : (ks.map V.str).length ≤ 40000 := by rw [List.length_map]; omega
    refine Evl.q_when (b := false) (Evl.et_is (Evl.et_or (Evl.et_not (Evl.et_B (ev_call (v := .bl true) (Evl.ea_cons (Evl.ev_var rfl) Evl.ea_nil) fun H1 e1 Q1 q1 => ⟨a, _, rfl, exB e1 hS, fun H2 e2 => q1 H2 e2⟩)))
      (fun _ => Evl.et_not (Evl.et_B (ev_all (bs := List.replicate (ks.map V.str).length true) ?_)))) (by rw [all_true]; rfl)) (fun z => nomatch z) (fun _ H1 e1 => ?_)
    · rw [← range_true]
      refine el_lcB (fun _ => .bl true) (Evl.ev_var rfl) hS lT (fun x => rfl) (fun i x H2 e2 hi => ?_)
      obtain ⟨y, rfl, hy⟩ := strs_at hi
      have hy2 : y ∈ lettersL := hk y (List.mem_of_getElem? hy)
      refine Evl.ev_is (Evl.ev_op (Evl.ev_var rfl) Evl.ev_c (Evl.rv_isT (T.s_LETTERS _) rfl (flat_strs _))) ?_
      rw [inV_strs]
      exact congrArg V.bl (decide_eq_true hy2)
    · refine ⟨_, rfl, a, ks, rfl, exB e1 hS, hl, _, rfl, a, _, rfl, exB e1 hS, rfl, ?_⟩
      rw [List.length_map]
      exact (decide_eq_true (rfl : V.int (ks.length : Int) = V.int (ks.length : Int))) ▸ q H1 e1
theorem ok_are_rules {f fSeq : Addr} {fd fdSeq : FuncData} (F : Fun K "are_rules" "are_rules" sAreRules f fd) (T : TxR K mg a_LETTERS a_LETTER_TESTS a_LETTER_DEEDS a_ANSWER_TESTS a_ANSWER_DEEDS CR tA tN) (D_is_sequence : Df K mg "is_sequence" sIsSequence ["value"] fSeq fdSeq) :
    FnOk P w K mg base CX0 2 f fd ["value"] (spAreRules K CR) := by
  have G_is_sequence : FnOk P w K mg base CX0 1 fSeq fdSeq ["value"] (spIsSeq K) := ok_is_sequence D_is_sequence.F T
  refine F.ok scAreRules (fun vs H Q E h => ?_) (fun cdv A outer s H vs Q E hr h => ?_)
  · obtain ⟨a, xs, rs, rfl, _⟩ := h
    rfl
  · obtain ⟨a, xs, rs, rfl, hS, hR, hl, q⟩ := h
    refine ⟨_, pss_one (ps_ret (pe_and (pe_call G_is_sequence (hr.mono (by decide)) rfl D_is_sequence.g D_is_sequence.F.kp D_is_sequence.b .nil pass0 (pa_cons (pv 0) pa_nil)) (pe_one (pe_callB (cr_all rfl) (by rfl) T.n_all (by decide +kernel) (pa_cons (pe_lc (own := [("rule", 1)]) (g := gName 1) (tt := tYes) rfl scAreRules.nd (pi_both (pv 0)) (blkOk_by (own := [("rule", 1)]) (N := ["value", "rule"]) (sc := defScope sAreRules) (by decide +kernel)) (fun _ _ _ _ _ => (pg_name (i := 1) scAreRules.nd rfl (Or.inl rfl))) (fun _ _ _ _ _ => pts_nil) (fun _ _ _ _ _ => (pe_callB (r := rIsi K) call_isi (by rfl) T.n_isinstance (by decide +kernel) (pa_cons (pv 1) (pa_cons (pe_glob (v := .ref CR) rfl T.g_Rule rfl) pa_nil))))) pa_nil))))), ?_⟩
    refine Evl.s_ret (v := .bl (true && (List.replicate xs.length true).all id)) ?_ fun H1 e1 => by
      rw [all_true]
      exact q H1 e1
    refine Evl.ev_andV (ev_call (v := .bl true) (Evl.ea_cons (Evl.ev_var rfl) Evl.ea_nil) fun H1 e1 Q1 q1 => ⟨a, _, rfl, exB e1 hS, fun H2 e2 => q1 H2 e2⟩) (fun _ => ev_all ?_)
    rw [← range_true]
    refine el_lcB (fun _ => .bl true) (Evl.ev_var rfl) hS (Nat.le_trans hl (by decide)) (fun x => rfl) (fun i x H2 e2 hi => ?_)
    obtain ⟨p, r, rfl, hr2, dx, t, d, h1, _⟩ := hR.at_ hi
    exact ev_isi (Evl.ea_cons (Evl.ev_var rfl) (Evl.ea_cons Evl.ev_c Evl.ea_nil)) (.own CR) (fun H3 e3 => .base (.ins (e3 _ _ (e2 _ _ h1)) T.cl T.ci T.cs T.ct T.co)) (by simp [PySem.W.kitOne])
theorem ok_is_integer {f : Addr} {fd : FuncData} (F : Fun K "is_integer" "is_integer" sIsInteger f fd) (T : TxP K mg CP) : FnOk P w K mg base CX0 1 f fd ["value"] spIsInteger := by
  refine F.ok scIsInteger (fun vs H Q E h => ?_) (fun cdv A outer s H vs Q E hr h => ?_)
  · obtain ⟨i, rfl, _⟩ := h
    rfl
  · obtain ⟨i, rfl, q⟩ := h
    refine ⟨_, pss_one (ps_ret (pe_and (pe_callB call_isi (by rfl) T.n_isinstance (by decide +kernel) (pa_cons (pv 0) (pa_cons (pe_bltn (v := .ty "int") (by rfl) T.n_int (by decide +kernel) rfl) pa_nil))) (pe_one (pe_not (pe_callB call_isi (by rfl) T.n_isinstance (by decide +kernel) (pa_cons (pv 0) (pa_cons (pe_bltn (v := .ty "bool") (by rfl) T.n_bool (by decide +kernel) rfl) pa_nil))))))), ?_⟩
    exact ⟨_, rfl, _, _, _, _, true, rfl, .ty _, .base (.int _), kit_ty (by decide +kernel), _, rfl, iteT ⟨_, rfl, _, _, _, _, false, rfl, .ty _, .base (.int _), kit_ty (by decide +kernel), _, rfl, q⟩⟩
theorem ok_is_place {f fI : Addr} {fd fdI : FuncData} (F : Fun K "is_place" "is_place" sIsPlace f fd) (T : TxP K mg CP) (D_is_integer : Df K mg "is_integer" sIsInteger ["value"] fI fdI) : FnOk P w K mg base CX0 2 f fd ["value", "many"] spIsPlace := by
  have G_is_integer : FnOk P w K mg base CX0 1 fI fdI ["value"] spIsInteger := ok_is_integer D_is_integer.F T
  refine F.ok scIsPlace (fun vs H Q E h => ?_) (fun cdv A outer s H vs Q E hr h => ?_)
  · obtain ⟨i, n, rfl, _⟩ := h
    rfl
  · obtain ⟨i, n, rfl, q⟩ := h
    refine ⟨_, pss_one (ps_ret (pe_and (pe_call G_is_integer (hr.mono (by decide)) rfl D_is_integer.g D_is_integer.F.kp D_is_integer.b .nil pass0 (pa_cons (pv 0) pa_nil)) (pe_one (pe_chain op_le op_lt pe_int (pv 0) (pv 1))))), ?_⟩
    refine ⟨_, rfl, i, rfl, true, rfl, iteT ?_⟩
    refine ⟨_, rfl, _, _, rfl, rfl, _, rfl, ?_⟩
    refine ite2 (fun h1 => ⟨_, rfl, _, _, rfl, rfl, ?_⟩) (fun h1 => ?_)
    · rw [h1, Bool.true_and] at q
      exact q
    · rw [show decide (0 ≤ i) = false by simpa using h1, Bool.false_and] at q
      exact q
theorem ok_plan_init1 {f fSeq fAR fAU : Addr} {fd fdSeq fdAR fdAU : FuncData} {dvs : List V} {kws : List (Str × V)} (F : FunD K "__init__" "Plan.__init__" (defArgs sPlanInit) (defBody sPlanInit) (defScope sPlanInit) dvs kws f fd) (T : TxR K mg a_LETTERS a_LETTER_TESTS a_LETTER_DEEDS a_ANSWER_TESTS a_ANSWER_DEEDS CR tA tN) (TP : TxP K mg CP)
    (D_is_sequence : Df K mg "is_sequence" sIsSequence ["value"] fSeq fdSeq) (D_are_raises : Df K mg "are_raises" sAreRaises ["value"] fAR fdAR) (D_are_rules : Df K mg "are_rules" sAreRules ["value"] fAU fdAU) :
    FnOk P w K mg base CX0 3 f fd ["self", "raises", "rules"] (spPlanInit1 K CR CP) := by
  have G_are_raises : FnOk P w K mg base CX0 2 fAR fdAR ["value"] (spAreRaises1 K) := ok_are_raises1 D_are_raises.F T TP.n_set D_is_sequence
  have G_are_rules : FnOk P w K mg base CX0 2 fAU fdAU ["value"] (spAreRules K CR) := ok_are_rules D_are_rules.F T D_is_sequence
  refine FunD_ok0 F scPlanInit (fun vs H Q E h => ?_) (fun cdv A outer s H vs Q E hr h => ?_)
  · obtain ⟨p, a, b, dx, ks, xs, rs, rfl, _⟩ := h
    rfl
  · obtain ⟨p, a, b, dx, ks, xs, rs, rfl, hp, hA, hl, hk, hB, hR, hx, q⟩ := h
    refine ⟨_, pss_cons (ps_if (pt_not (pt_val (pe_call G_are_raises (hr.mono (by decide)) rfl D_are_raises.g D_are_raises.F.kp D_are_raises.b .nil pass0 (pa_cons (pv 1) pa_nil)))) (pss_one ps_never) pss_nil)
      (pss_cons (ps_if (pt_not (pt_val (pe_call G_are_rules (hr.mono (by decide)) rfl D_are_rules.g D_are_rules.F.kp D_are_rules.b .nil pass0 (pa_cons (pv 2) pa_nil)))) (pss_one ps_never) pss_nil)
      (pss_cons (ps_fld (pv 0) (pe_callTy call_tuple_any (by rfl) T.n_tuple (by decide +kernel) (pa_cons (pe_callB cr_sortedB (by rfl) TP.n_sorted (by decide +kernel) (pa_cons (pv 1) pa_nil)) pa_nil)) rfl)
      (pss_one (ps_fld (pv 0) (pe_callTy call_tuple_any (by rfl) T.n_tuple (by decide +kernel) (pa_cons (pv 2) pa_nil)) rfl)))), ?_⟩
    refine Evl.q_when (b := false) (Evl.et_is (Evl.et_not (Evl.et_B (ev_call (v := .bl true) (Evl.ea_cons (Evl.ev_var rfl) Evl.ea_nil) fun H1 e1 Q1 q1 => ⟨a, ks, rfl, exB e1 hA, hl, hk, fun H2 e2 => q1 H2 e2⟩))) rfl) (fun z => nomatch z) (fun _ H1 e1 => ?_)
    refine Evl.q_when (b := false) (Evl.et_is (Evl.et_not (Evl.et_B (ev_call (v := .bl true) (Evl.ea_cons (Evl.ev_var rfl) Evl.ea_nil) fun H2 e2 Q1 q1 => ⟨b, xs, rs, rfl, exB (e1.trans e2) hB, RulesAt.ex (e1.trans e2) hR, hx, fun H3 e3 => q1 H3 e3⟩))) rfl) (fun z => nomatch z) (fun _ H2 e2 => ?_)
    have e12 := e1.trans e2
    have ntp : ∀ {H' : Hp} {a : Addr} {xs : List V} {fs : List (Str × V)}, H' p = some (.ins CP dx fs) → SqT K H' a xs → ∀ o, SqT K (upd H' p o) a xs := by
      intro H' a xs fs hp' h o
      rcases h with (h | ⟨u, h⟩) | h
      · exact .inl (.inl (by rw [upd_ne (ne_of h hp' (fun z => nomatch z))]; exact h))
      · exact .inl (.inr ⟨u, by rw [upd_ne (ne_of h hp' (fun z => nomatch z))]; exact h⟩)
      · exact .inr h
    have ntl : ∀ {H' : Hp} {a : Addr} {xs : List V} {fs : List (Str × V)}, H' p = some (.ins CP dx fs) → SqL K H' a xs → ∀ o, SqL K (upd H' p o) a xs := by
      intro H' a xs fs hp' h o
      rcases h with (h | ⟨u, h⟩) | h
      · exact .inl (.inl (by rw [upd_ne (ne_of h hp' (fun z => nomatch z))]; exact h))
      · exact .inl (.inr ⟨u, by rw [upd_ne (ne_of h hp' (fun z => nomatch z))]; exact h⟩)
      · exact .inr h
    refine ⟨_, rfl, a, ks, rfl, exB e12 hA, by omega, fun ys l hperm hsort nl => ?_⟩
    have eys : ys = ks := perm_le1 hl hperm
    subst eys
    refine ⟨l, _, rfl, .inl (SqL.of upd_same), fun t2 H3 e3 s3 => ?_⟩
    have e13 : Ex H H3 := (e12.trans (Ex.new nl)).trans e3
    have hp3 := e13 _ _ hp
    refine ⟨_, rfl, p, CP, dx, _, rfl, hp3, TP.cl, TP.nR, (by show 0 < 1000; decide), ?_⟩
    have hB3 := (exB e13 hB).imp (fun h => ntl hp3 h (.ins CP dx (putF "raises" (.ref t2) []))) (fun h => ntp hp3 h (.ins CP dx (putF "raises" (.ref t2) [])))
    have s3' := ntp hp3 s3 (.ins CP dx (putF "raises" (.ref t2) []))
    refine ⟨_, rfl, b, _, rfl, hB3, fun d2 H4 e4 s4 => ?_⟩
    have hp4 := e4 _ _ upd_same
    refine ⟨_, rfl, p, CP, dx, _, rfl, hp4, TP.cl, TP.nU, (by show 1 < 1000; decide), ?_⟩
    refine q _ (fun c o hc hh => ?_) ⟨dx, t2, d2, upd_same, ntp hp4 (Evl.ex_t e4 s3') _, ntp hp4 s4 _⟩
    rw [upd_ne hc]
    refine e4 _ _ ?_
    rw [upd_ne hc]
    exact e13 _ _ hh
theorem ok_plan_item {f fI fPl : Addr} {fd fdI fdPl : FuncData} (F : Fun K "__getitem__" "Plan.__getitem__" sPlanGetitem f fd) (TP : TxP K mg CP) (D_is_integer : Df K mg "is_integer" sIsInteger ["value"] fI fdI) (D_is_place : Df K mg "is_place" sIsPlace ["value", "many"] fPl fdPl) :
    FnOk P w K mg base CX0 3 f fd ["self", "at"] (spPlanItem K CP) := by
  have G_is_place : FnOk P w K mg base CX0 2 fPl fdPl ["value", "many"] spIsPlace := ok_is_place D_is_place.F TP D_is_integer
  refine F.ok scPlanGetitem (fun vs H Q E h => ?_) (fun cdv A outer s H vs Q E hr h => ?_)
  · obtain ⟨p, ks, xs, i, x, rfl, _⟩ := h
    rfl
  · obtain ⟨p, ks, xs, i, x, rfl, ⟨dx, a, b, hp, ha, hb⟩, hx, q⟩ := h
    refine ⟨_, pss_cons (ps_if (pt_not (pt_val (pe_call G_is_place (hr.mono (by decide)) rfl D_is_place.g D_is_place.F.kp D_is_place.b .nil pass0 (pa_cons (pv 1) (pa_cons (pe_callB call_len_seq (by rfl) TP.n_len (by decide +kernel) (pa_cons (pe_fld (pv 0) rfl) pa_nil)) pa_nil))))) (pss_one ps_never) pss_nil)
      (pss_one (ps_ret (pe_ix ix_tup (pe_fld (pv 0) rfl) (pv 1) (fun _ _ => rfl)))), ?_⟩
    refine ⟨_, rfl, _, rfl, p, CP, dx, _, _, rfl, hp, TP.cl, TP.nU, pf_rules _ _, b, xs, rfl, .inr hb, _, _, rfl, _, rfl, ?_⟩
    have hi := (List.getElem?_eq_some_iff.mp hx).1
    have e : (decide ((0 : Int) ≤ (i : Int)) && decide ((i : Int) < (xs.length : Int))) = true := by
      rw [decide_eq_true (by omega), decide_eq_true (by omega)]
      rfl
    rw [e]
    refine iteF ⟨_, rfl, p, CP, dx, _, _, rfl, hp, TP.cl, TP.nU, pf_rules _ _, _, rfl, b, xs, _, _, rfl, rfl, hb, atI_nat hx, q⟩
end
end Ov


namespace Ov
open PySem PySem.Spec PyProof.Rows L2
open Evl (pss_cut tCut Ex Ev EvT EvL EvA EvU)
/-- evaluates to some object of which Pp holds; what stood stays -/
def EvP (te : TE) (σ : L2.St) (H : Hp) (Pp : Addr → Hp → Prop) : Prop := ∀ H1, Ex H H1 → ∀ Q : VK, (∀ p H2, Ex H1 H2 → Pp p H2 → Q (.ref p) H2) → te σ H1 Q
def EvAs (ta : TA) (σ : L2.St) (H : Hp) (Pa : List V → Hp → Prop) : Prop := ∀ H1, Ex H H1 → ∀ Q : List V → Hp → Prop, (∀ vs H2, Ex H1 H2 → Pa vs H2 → Q vs H2) → ta σ H1 Q
def sameR (r u : RuleD) : Bool := decide (r.k = u.k) && (decide (r.ts = u.ts) && decide (r.ds = u.ds))
theorem sameR_self (r : RuleD) : sameR r r = true := by
  unfold sameR
  rw [decide_eq_true rfl, decide_eq_true rfl, decide_eq_true rfl]
  rfl
theorem sameR_text {r u : RuleD} (g : r.Good) (g2 : u.Good) : decide (ruleText r = ruleText u) = sameR r u := by
  by_cases h : ruleText r = ruleText u
  · obtain ⟨h1, h2, h3⟩ := ruleText_inj g g2 h
    unfold sameR
    rw [h1, h2, h3, decide_eq_true h, decide_eq_true rfl, decide_eq_true rfl, decide_eq_true rfl]
    rfl
  · rw [decide_eq_false h]
    symm
    by_cases hs : sameR r u = true
    · exfalso
      unfold sameR at hs
      obtain ⟨h1, h2⟩ := Bool.and_eq_true_iff.mp hs
      obtain ⟨h2, h3⟩ := Bool.and_eq_true_iff.mp h2
      refine h ?_
      unfold ruleText
      rw [of_decide_eq_true h1, of_decide_eq_true h2, of_decide_eq_true h3]
    · simpa using hs
section
variable {K : PySem.W.Frag} {CR : Addr} {σ : L2.St} {H : Hp} {ta tb te : TE} {r u : RuleD}
theorem EvP.of {p : Addr} {Pp : Addr → Hp → Prop} (h : Ev te σ H (.ref p)) (hp : ∀ H1, Ex H H1 → Pp p H1) : EvP te σ H Pp := fun H1 e Q q => h H1 e Q fun H2 e2 => q p H2 e2 (hp H2 (e.trans e2))
theorem EvP.tup {vs : List V} {Pp : Addr → Hp → Prop} (h : EvU te σ H vs) (hp : ∀ p H1, Ex H H1 → H1 p = some (.tup vs) → Pp p H1) : EvP te σ H Pp := fun H1 e Q q => h H1 e Q fun p H2 _ e2 h2 => q p H2 e2 (hp p H2 (e.trans e2) h2)
theorem EvP.lst {vs : List V} {Pp : Addr → Hp → Prop} (h : EvL te σ H vs) (hp : ∀ p H1, Ex H H1 → H1 p = some (.lst vs) → Pp p H1) : EvP te σ H Pp := fun H1 e Q q => h H1 e Q fun p H2 _ e2 h2 => q p H2 e2 (hp p H2 (e.trans e2) h2)
/-- Rule(k, tests, deeds) -/
theorem ev_rule {t3 t4 : TE} (hk : Ev ta σ H (.str r.k)) (ht : EvP t3 σ H (fun t H2 => SqL K H2 t (r.ts.map V.str) ∨ SqT K H2 t (r.ts.map V.str))) (hd : EvP t4 σ H (fun d H2 => SqL K H2 d (r.ds.map V.str) ∨ SqT K H2 d (r.ds.map V.str))) (g : r.Good) :
    EvP (tMake CR (spRuleInit K CR) [] E0 (tCons ta (tCons t3 (tCons t4 tNil)))) σ H (fun p H2 => RuleObj K CR H2 p r) := fun H1 e1 Q q => by
  refine hk H1 e1 _ fun H2 e2 => ht H2 (e1.trans e2) _ fun t H3 e3 st => hd H3 ((e1.trans e2).trans e3) _ fun d H4 e4 sd x dx nx ndx ne => ?_
  have e5 : Ex H4 (upd (upd H4 dx (.own x)) x (.ins CR dx [])) := (Ex.new ndx).trans (Ex.new (by rw [upd_ne ne.symm]; exact nx))
  refine ⟨x, t, d, dx, r, rfl, upd_same, exB e5 (exB e4 st), exB e5 sd, g, fun H5 k5 ro => ⟨rfl, q x H5 (((e2.trans e3).trans e4).trans fun b o hb => k5 b o (ne_of_none hb nx) (e5 _ _ hb)) ro⟩⟩
theorem ev_eqR (ha : EvP ta σ H (fun p H => RuleObj K CR H p r)) (hb : EvP tb σ H (fun p H => RuleObj K CR H p u)) (g : r.Good) (g2 : u.Good) : Ev (tOp (rEqI CR (spRuleEq K CR) E0) ta tb) σ H (.bl (sameR r u)) := fun H1 e1 Q q => by
  refine ha H1 e1 _ fun p H2 e2 rp => hb H2 (e1.trans e2) _ fun p2 H3 e3 rp2 => ?_
  have rp3 := rp.ex e3
  obtain ⟨dx, t, d, hp, _⟩ := id rp3
  obtain ⟨dx2, t2, d2, hp2, _⟩ := id rp2
  exact ⟨p, p2, dx, dx2, _, _, rfl, rfl, hp, hp2, p, p2, r, u, rfl, rp3, rp2, g, g2, fun H4 e4 => ⟨_, rfl, q H4 ((e2.trans e3).trans e4)⟩⟩
theorem ev_neR (ha : EvP ta σ H (fun p H => RuleObj K CR H p r)) (hb : EvP tb σ H (fun p H => RuleObj K CR H p u)) (g : r.Good) (g2 : u.Good) : Ev (tOp (rNeI CR (spRuleEq K CR) E0) ta tb) σ H (.bl (!sameR r u)) := fun H1 e1 Q q => by
  refine ha H1 e1 _ fun p H2 e2 rp => hb H2 (e1.trans e2) _ fun p2 H3 e3 rp2 => ?_
  have rp3 := rp.ex e3
  obtain ⟨dx, t, d, hp, _⟩ := id rp3
  obtain ⟨dx2, t2, d2, hp2, _⟩ := id rp2
  exact ⟨p, p2, dx, dx2, _, _, rfl, rfl, hp, hp2, p, p2, r, u, rfl, rp3, rp2, g, g2, fun H4 e4 => ⟨_, rfl, q H4 ((e2.trans e3).trans e4)⟩⟩
theorem ev_strR (ha : EvP ta σ H (fun p H => RuleObj K CR H p r)) (g : r.Good) : Ev (tCB (rStrI CR (spRuleStr K CR) E0) (tCons ta tNil)) σ H (.str (ruleText r)) := fun H1 e1 Q q => by
  refine ha H1 e1 _ fun p H2 e2 rp => ?_
  obtain ⟨dx, t, d, hp, _⟩ := id rp
  exact ⟨p, dx, _, rfl, hp, p, r, rfl, rp, g, fun H3 e3 => ⟨_, rfl, q H3 (e2.trans e3)⟩⟩
/-- the fields of a Rule -/
theorem ev_fk {T : Cls K CR} (nK : NoAttr K CR "kind") {p : Addr} (ha : Ev ta σ H (.ref p)) (rp : RuleObj K CR H p r) : Ev (tFld K ta "kind") σ H (.str r.k) := by
  obtain ⟨dx, t, d, hp, _⟩ := rp
  exact ev_fld ha hp T nK (rf_k _ _ _)
theorem ev_ft {T : Cls K CR} (nT : NoAttr K CR "tests") {p : Addr} (ha : Ev ta σ H (.ref p)) (rp : RuleObj K CR H p r) : EvP (tFld K ta "tests") σ H (fun t H2 => SqT K H2 t (r.ts.map V.str)) := by
  obtain ⟨dx, t, d, hp, ht, _⟩ := rp
  exact .of (ev_fld ha hp T nT (rf_t _ _ _)) fun H1 e1 => Evl.ex_t e1 ht
theorem ev_fd {T : Cls K CR} (nD : NoAttr K CR "deeds") {p : Addr} (ha : Ev ta σ H (.ref p)) (rp : RuleObj K CR H p r) : EvP (tFld K ta "deeds") σ H (fun t H2 => SqT K H2 t (r.ds.map V.str)) := by
  obtain ⟨dx, t, d, hp, _, hd⟩ := rp
  exact .of (ev_fld ha hp T nD (rf_d _ _ _)) fun H1 e1 => Evl.ex_t e1 hd
theorem EvP.imp {Pp Pq : Addr → Hp → Prop} (h : EvP te σ H Pp) (i : ∀ p H1, Pp p H1 → Pq p H1) : EvP te σ H Pq := fun H1 e Q q => h H1 e Q fun p H2 e2 h2 => q p H2 e2 (i p H2 h2)
theorem EvP.mono {Pp : Addr → Hp → Prop} {H' : Hp} (e : Ex H H') (h : EvP te σ H Pp) : EvP te σ H' Pp := fun H1 e1 Q q => h H1 (e.trans e1) Q q
/-- t[::-1] -/
theorem ev_back {xs : List V} (ha : EvP ta σ H (fun t H2 => SqT K H2 t xs)) (hs : Ev tb σ H (.int (-1))) : EvP (tBackT K ta tb) σ H (fun t H2 => SqT K H2 t xs.reverse) := fun H1 e1 Q q =>
  ha H1 e1 _ fun t H2 e2 st => hs H2 (e1.trans e2) _ fun H3 e3 => ⟨-1, rfl, rfl, t, xs, rfl, Evl.ex_t e3 st, fun p np => q p _ ((e2.trans e3).trans (Ex.new np)) (Evl.st_of upd_same)⟩
/-- == and != of tuples of texts, either made on the way -/
theorem ev_eqTs {l m : List Str} (ol : Plain l) (om : Plain m) (ha : EvP ta σ H (fun t H2 => SqT K H2 t (l.map V.str))) (hb : EvP tb σ H (fun t H2 => SqT K H2 t (m.map V.str))) : Ev (tOp (rEqD K) ta tb) σ H (.bl (decide (l = m))) := fun H1 e1 Q q =>
  ha H1 e1 _ fun t H2 e2 st => hb H2 (e1.trans e2) _ fun t2 H3 e3 st2 => rv_eqT ol om (Evl.ex_t e3 st) st2 H3 (Ex.refl _) Q fun H4 e4 => q H4 ((e2.trans e3).trans e4)
/-- lists of texts, of truth values, compared -/
theorem dp_bls {H : Hp} : ∀ l : List Bool, DpAll K H (l.map V.bl) (l.map PyData.bool)
  | [] => .nil
  | n :: r => .cons (.bl n) (dp_bls r)
theorem canLay_bls : ∀ l : List Bool, PyData.canLayAll0 (l.map PyData.bool) = true
  | [] => rfl
  | n :: r => by
    show (PyData.canLay0 (.bool n) && PyData.canLayAll0 (r.map PyData.bool)) = true
    rw [canLay_bls r]
    rfl
theorem depth_bls : ∀ l : List Bool, PyData.depthAll (l.map PyData.bool) = 0
  | [] => rfl
  | n :: r => by
    show max (PyData.depth (.bool n)) (PyData.depthAll (r.map PyData.bool)) = 0
    rw [depth_bls r]
    rfl
theorem shaped_bls (l : List Bool) : SeqAt.shaped (.list (l.map PyData.bool)) = true := by
  have h2 : (PyData.list (l.map PyData.bool)).depth = 0 + 1 := by
    show PyData.depthAll (l.map PyData.bool) + 1 = 0 + 1
    rw [depth_bls]
  show (PyData.canLayAll0 (l.map PyData.bool) && decide ((PyData.list (l.map PyData.bool)).depth ≤ 64)) = true
  rw [canLay_bls l, h2]
  rfl
theorem eqvAll_bls : ∀ l : List Bool, PyData.eqvAll (l.map PyData.bool) (l.map PyData.bool) = true
  | [] => rfl
  | x :: l => by
    show (x == x && PyData.eqvAll (l.map PyData.bool) (l.map PyData.bool)) = true
    rw [eqvAll_bls l, beq_self_eq_true]
    rfl
/-- two lists of the same truth values are not unequal -/
theorem ev_neBs {l : List Bool} (ha : EvL ta σ H (l.map V.bl)) (hb : EvL tb σ H (l.map V.bl)) : Ev (tOp (rNeD K) ta tb) σ H (.bl false) := Evl.ev_opLL ha hb fun p q H1 hp hq _ => fun H2 e2 Q k =>
  ⟨_, _, .lst (Evl.sq_of (e2 _ _ hp)) (dp_bls l), .lst (Evl.sq_of (e2 _ _ hq)) (dp_bls l), shaped_bls l, shaped_bls l, by
    have e : PyData.eqv (.list (l.map PyData.bool)) (.list (l.map PyData.bool)) = true := eqvAll_bls l
    rw [e]
    exact k H2 (Ex.refl _)⟩
/-- a new list of texts against a list of the same ones -/
theorem ev_neSs {l : List Str} {a : Addr} (ol : Plain l) (ha : EvL ta σ H (l.map V.str)) (hb : ∀ H1, Ex H H1 → Ev tb σ H1 (.ref a)) (hl : SqL K H a (l.map V.str)) : Ev (tOp (rNeD K) ta tb) σ H (.bl false) := Evl.ev_opL1 ha hb fun p H1 hp e1 => fun H2 e2 Q k =>
  ⟨_, _, .lst (Evl.sq_of (e2 _ _ hp)) (dp_strs l), .lst (Evl.ex_l (e1.trans e2) hl) (dp_strs l), shaped_strsL l ol, shaped_strsL l ol, by
    rw [eqv_strsL, decide_eq_true rfl]
    exact k H2 (Ex.refl _)⟩
end
/-! ### texts of rules are of plain signs -/
theorem plain_app {x y : Str} (hx : PyData.canLay0 (.str x) = true) (hy : PyData.canLay0 (.str y) = true) : PyData.canLay0 (.str (x ++ y)) = true := by
  have hx' : x.cps.all (· < 0x110000) = true := hx
  have hy' : y.cps.all (· < 0x110000) = true := hy
  show (x ++ y).cps.all (· < 0x110000) = true
  rw [Str.cps_append, Array.all_append, hx', hy']
  rfl
theorem plain_join {sep : Str} (hs : PyData.canLay0 (.str sep) = true) : ∀ {l : List Str}, Plain l → PyData.canLay0 (.str (Str.join sep l)) = true
  | [], _ => by
    show PyData.canLay0 (.str Str.empty) = true
    decide +kernel
  | [x], h => h x (List.mem_singleton.mpr rfl)
  | x :: y :: r, h => plain_app (plain_app (h x (List.mem_cons_self ..)) hs) (plain_join hs fun z hz => h z (List.mem_cons_of_mem _ hz))
theorem plain_text {r : RuleD} (g : r.Good) : PyData.canLay0 (.str (ruleText r)) = true := by
  have hk : ∀ k ∈ kindsAll, PyData.canLay0 (.str k) = true := by decide +kernel
  unfold ruleText tText dText
  refine plain_app (plain_app (plain_app (by decide +kernel) (hk _ g.k)) ?_) ?_
  · split
    · decide +kernel
    · exact plain_app (by decide +kernel) (plain_join (by decide +kernel) g.pt)
  · split
    · decide +kernel
    · exact plain_app (by decide +kernel) (plain_join (by decide +kernel) g.pd)
end Ov


namespace Ov
open PySem PySem.Spec PyProof.Rows L2
open Evl (pss_cut tCut Ex Ev EvT EvL EvA EvU)
/-! ### readings of the law's parts -/
abbrev sK : Str := Str.ofString "kind"
abbrev sT : Str := Str.ofString "tests"
abbrev sD : Str := Str.ofString "deeds"
section
variable (K : PySem.W.Frag) (CR CP : Addr)
abbrev tR (ta : TA) : TE := tMake CR (spRuleInit K CR) [] E0 ta
abbrev tBk : TE := tOp (rI0 fun i j => V.int (i - j)) (tC (V.int 0)) (tC (V.int 1))
abbrev fK : TE := tFld K (tVar 6) sK
abbrev fT : TE := tFld K (tVar 6) sT
abbrev fD : TE := tFld K (tVar 6) sD
abbrev ix5 (i : Int) : TE := tOp (rIxT K) (tVar 5) (tC (V.int i))
abbrev tStr (te : TE) : TE := tCB (rStrI CR (spRuleStr K CR) E0) (tCons te tNil)
abbrev tNo : TS := tRet (tC (V.bl false))
def rdZip : TS :=
  tSeq (tIfS (tOr (tTest (tOp (rNeI CR (spRuleEq K CR) E0) (tR K CR (tCons (fK K) (tCons (fT K) (tCons (fD K) tNil)))) (tVar 6))) (tTest (tOp (rNeD K) (fK K) (ix5 K 0)))) tNo tNext)
  (tSeq (tAsg (tR K CR (tCons (fK K) (tCons (tBackT K (fT K) tBk) (tCons (fD K) tNil)))) (gName 7))
  (tSeq (tIfS (tTest (tOp (rNeD K) (tOp (rEqI CR (spRuleEq K CR) E0) (tVar 7) (tVar 6)) (tOp (rEqD K) (tBackT K (ix5 K 1) tBk) (ix5 K 1)))) tNo tNext)
  (tSeq (tAsg (tR K CR (tCons (fK K) (tCons (tTup tNil) (tCons (fD K) tNil)))) (gName 8))
  (tIfS (tOr (tTest (tOp (rNeD K) (tOp (rEqI CR (spRuleEq K CR) E0) (tVar 8) (tVar 6)) (tOp (rEqD K) (ix5 K 1) (tTup tNil))))
    (tTest (tOp (rNeD K) (tStr K CR (tVar 8)) (tCall (spRuleText K) [] E0 (tCons (tTup (tCons (ix5 K 0) (tCons (tTup tNil) (tCons (ix5 K 2) tNil)))) tNil))))) tNo tNext))))
end
theorem q_asgP {te : TE} {σ : L2.St} {H : Hp} {D : Ends} {tz : TS} {i : Nat} {Pp : Addr → Hp → Prop} (h : EvP te σ H Pp) (k : ∀ p H1, Ex H H1 → Pp p H1 → tz D (σ.set i (some (.ref p))) H1) : tSeq (tAsg te (gName i)) tz D σ H :=
  h H (Ex.refl H) _ fun p H1 e hp => k p H1 e hp
section
variable {K : PySem.W.Frag} {σ : L2.St} {H : Hp} {ta tb : TE}
theorem ev_neB1 {a b : Bool} (ha : Ev ta σ H (.bl a)) (hb : Ev tb σ H (.bl b)) (e : a = b) : Ev (tOp (rNeD K) ta tb) σ H (.bl false) := by
  subst e
  refine Evl.ev_op ha hb fun H1 e _ q => ⟨_, _, .bl a, .bl a, rfl, rfl, ?_⟩
  rw [show PyData.eqv (.bool a) (.bool a) = (a == a) from rfl, beq_self_eq_true]
  exact q H1 (Ex.refl H1)
theorem ev_neS1 {x : Str} (ha : Ev ta σ H (.str x)) (hb : Ev tb σ H (.str x)) (hx : PyData.canLay0 (.str x) = true) : Ev (tOp (rNeD K) ta tb) σ H (.bl false) := by
  have sh : SeqAt.shaped (.str x) = true := by
    show (PyData.canLay0 (.str x) && decide ((PyData.str x).depth ≤ 64)) = true
    rw [hx]
    rfl
  refine Evl.ev_op ha hb fun H1 e _ q => ⟨_, _, .str x, .str x, sh, sh, ?_⟩
  rw [show PyData.eqv (.str x) (.str x) = (x == x) from rfl, beq_self_eq_true]
  exact q H1 (Ex.refl H1)
end
theorem RuleD.Good.rev {r : RuleD} (g : r.Good) : RuleD.Good ⟨r.k, r.ts.reverse, r.ds⟩ := ⟨g.k, fun t ht => g.ts t (List.mem_reverse.mp ht), g.ds, (by rw [List.length_reverse]; exact g.nt), g.nd⟩
theorem RuleD.Good.bare {r : RuleD} (g : r.Good) : RuleD.Good ⟨r.k, [], r.ds⟩ := ⟨g.k, (fun t ht => nomatch ht), g.ds, Nat.zero_le _, g.nd⟩
theorem same_ts {r : RuleD} {ts : List Str} : sameR ⟨r.k, ts, r.ds⟩ r = decide (ts = r.ts) := by
  unfold sameR
  simp
theorem plain_kind {k : Str} (h : k ∈ kindsAll) : PyData.canLay0 (.str k) = true := by
  have hk : ∀ k ∈ kindsAll, PyData.canLay0 (.str k) = true := by decide +kernel
  exact hk _ h
section
variable {K : PySem.W.Frag} {mg : Str → Option Value} {a_LETTERS a_LETTER_TESTS a_LETTER_DEEDS a_ANSWER_TESTS a_ANSWER_DEEDS CR CP : Addr} {tA tN : Tok}
theorem rd_zip (T : TxR K mg a_LETTERS a_LETTER_TESTS a_LETTER_DEEDS a_ANSWER_TESTS a_ANSWER_DEEDS CR tA tN) {D : Ends} {H : Hp} {r : RuleD} {p q : Addr} {a0 a1 a2 a3 a4 a7 a8 a9 a10 a11 a12 a13 a14 a15 a16 a17 : Option V} (g : r.Good) (hp : RuleAt H p r) (hq : RuleObj K CR H q r)
    (k : ∀ b7 b8 H1, Ex H H1 → D.nx [a0, a1, a2, a3, a4, some (.ref p), some (.ref q), b7, b8, a9, a10, a11, a12, a13, a14, a15, a16, a17] H1) :
    rdZip K CR D [a0, a1, a2, a3, a4, some (.ref p), some (.ref q), a7, a8, a9, a10, a11, a12, a13, a14, a15, a16, a17] H := by
  obtain ⟨t, d, h1, h2, h3⟩ := hp
  refine Evl.q_when (b := false) (Evl.et_is (Evl.et_or (Evl.et_test (ev_neR (ev_rule (r := r) (ev_fk (r := r) (T := T.cl) T.nK (Evl.ev_var rfl) hq) ((ev_ft (r := r) (T := T.cl) T.nT (Evl.ev_var rfl) hq).imp fun _ _ h => .inr h) ((ev_fd (r := r) (T := T.cl) T.nD (Evl.ev_var rfl) hq).imp fun _ _ h => .inr h) g) (EvP.of (p := q) (Evl.ev_var rfl) fun H1 e => hq.ex e) g g))
    (fun _ => Evl.et_test (ev_neS1 (ev_fk (r := r) (T := T.cl) T.nK (Evl.ev_var rfl) hq) (ev_ixT (j := 0) (Evl.ev_var rfl) Evl.ev_c (Evl.st_of h1) rfl) (plain_kind g.k)))) (by rw [sameR_self]; rfl)) (fun z => nomatch z) (fun _ H1 e1 => ?_)
  replace hq := hq.ex e1
  replace h1 := e1 _ _ h1
  replace h2 := e1 _ _ h2
  replace h3 := e1 _ _ h3
  refine q_asgP (ev_rule (r := ⟨r.k, r.ts.reverse, r.ds⟩) (ev_fk (r := r) (T := T.cl) T.nK (Evl.ev_var rfl) hq) ((ev_back (ev_ft (r := r) (T := T.cl) T.nT (Evl.ev_var rfl) hq) (Evl.ev_op Evl.ev_c Evl.ev_c Evl.rv_I0)).imp fun _ _ h => .inr (by rw [List.map_reverse]; exact h)) ((ev_fd (r := r) (T := T.cl) T.nD (Evl.ev_var rfl) hq).imp fun _ _ h => .inr h) g.rev) fun q7 H2 e2 hq7 => ?_
  replace hq := hq.ex e2
  replace h1 := e2 _ _ h1
  replace h2 := e2 _ _ h2
  replace h3 := e2 _ _ h3
  have e02 := e1.trans e2
  refine Evl.q_when (b := false) (Evl.et_test (ev_neB1 (ev_eqR (r := ⟨r.k, r.ts.reverse, r.ds⟩) (u := r) (EvP.of (p := q7) (Evl.ev_var rfl) fun H1 e => hq7.ex e) (EvP.of (p := q) (Evl.ev_var rfl) fun H1 e => hq.ex e) g.rev g)
    (ev_eqTs (l := r.ts.reverse) (m := r.ts) g.rev.pt g.pt ((ev_back (EvP.of (p := t) (ev_ixT (j := 1) (Evl.ev_var rfl) Evl.ev_c (Evl.st_of h1) rfl) fun H1 e => Evl.st_of (e _ _ h2)) (Evl.ev_op Evl.ev_c Evl.ev_c Evl.rv_I0)).imp fun _ _ h => by rw [List.map_reverse]; exact h) (EvP.of (p := t) (ev_ixT (j := 1) (Evl.ev_var rfl) Evl.ev_c (Evl.st_of h1) rfl) fun H1 e => Evl.st_of (e _ _ h2))) same_ts)) (fun z => nomatch z) (fun _ H3 e3 => ?_)
  replace hq := hq.ex e3
  replace h1 := e3 _ _ h1
  replace h2 := e3 _ _ h2
  replace h3 := e3 _ _ h3
  have e03 := e02.trans e3
  refine q_asgP (ev_rule (r := ⟨r.k, [], r.ds⟩) (ev_fk (r := r) (T := T.cl) T.nK (Evl.ev_var rfl) hq) (EvP.tup (Evl.eu_tup Evl.ea_nil (Nat.zero_le _)) fun _ _ _ h => .inr (Evl.st_of h)) ((ev_fd (r := r) (T := T.cl) T.nD (Evl.ev_var rfl) hq).imp fun _ _ h => .inr h) g.bare) fun q8 H4 e4 hq8 => ?_
  replace hq := hq.ex e4
  replace h1 := e4 _ _ h1
  replace h2 := e4 _ _ h2
  replace h3 := e4 _ _ h3
  have e04 := e03.trans e4
  refine Evl.s_when (b := false) (Evl.et_is (Evl.et_or (Evl.et_test (ev_neB1 (ev_eqR (r := ⟨r.k, [], r.ds⟩) (u := r) (EvP.of (p := q8) (Evl.ev_var rfl) fun H1 e => hq8.ex e) (EvP.of (p := q) (Evl.ev_var rfl) fun H1 e => hq.ex e) g.bare g)
    (ev_eqTs (l := r.ts) (m := []) g.pt (fun _ h => nomatch h) (EvP.of (p := t) (ev_ixT (j := 1) (Evl.ev_var rfl) Evl.ev_c (Evl.st_of h1) rfl) fun H1 e => Evl.st_of (e _ _ h2)) (EvP.tup (Evl.eu_tup Evl.ea_nil (Nat.zero_le _)) fun _ _ _ h => Evl.st_of h)) (by rw [same_ts]; exact decide_eq_decide.mpr ⟨Eq.symm, Eq.symm⟩)))
    (fun _ => Evl.et_test (ev_neS1 (x := ruleText ⟨r.k, [], r.ds⟩) (ev_strR (EvP.of (p := q8) (Evl.ev_var rfl) fun H1 e => hq8.ex e) g.bare) ?_ (plain_text g.bare)))) rfl) (fun z => nomatch z) (fun _ H5 e5 => k _ _ H5 (e04.trans e5))
  intro H5 e5 Q qq
  refine (ev_ixT (K := K) (j := 0) (v := .str r.k) (Evl.ev_var rfl) Evl.ev_c (Evl.st_of (e5 _ _ h1)) rfl) H5 (Ex.refl _) _ fun H6 e6 => ?_
  refine ⟨Nat.zero_le _, fun t0 n0 => ?_⟩
  have e7 : Ex H6 (upd H6 t0 (.tup [])) := Ex.new n0
  refine (ev_ixT (K := K) (j := 2) (v := .ref d) (Evl.ev_var rfl) Evl.ev_c (Evl.st_of (((e5.trans e6).trans e7) _ _ h1)) rfl) _ (Ex.refl _) _ fun H8 e8 => ?_
  refine ⟨by show 3 ≤ sizeLine; decide, fun p1 n1 => ?_⟩
  have e9 : Ex H8 (upd H8 p1 (.tup [.str r.k, .ref t0, .ref d])) := Ex.new n1
  exact ⟨p1, t0, d, ⟨r.k, [], r.ds⟩, rfl, Evl.st_of upd_same, Evl.st_of (e9 _ _ (e8 _ _ upd_same)), Evl.st_of (e9 _ _ (e8 _ _ (e7 _ _ (e6 _ _ (e5 _ _ h3))))), g.bare, fun H10 e10 => qq H10 ((((e6.trans e7).trans e8).trans e9).trans e10)⟩
end
end Ov


namespace Ov
open PySem PySem.Spec PyProof.Rows L2
open Evl (pss_cut tCut Ex Ev EvT EvL EvA EvU)
def DrawnAt (H : Hp) (xs : List V) (rs : List RuleD) : Prop := Paired (fun x r => ∃ p, x = V.ref p ∧ RuleAt H p r ∧ r.Ok) xs rs
theorem DrawnAt.kp {a b : Addr} {H H' : Hp} (k : Kp a b H H') (D : Deal H a b) : ∀ {xs : List V} {rs : List RuleD}, DrawnAt H xs rs → DrawnAt H' xs rs
  | _, _, .nil => .nil
  | _, _, .cons ⟨p, h1, h2, h3⟩ t => .cons ⟨p, h1, h2.kp k D, h3⟩ (DrawnAt.kp k D t)
theorem DrawnAt.ex {H H' : Hp} (e : Ex H H') : ∀ {xs : List V} {rs : List RuleD}, DrawnAt H xs rs → DrawnAt H' xs rs
  | _, _, .nil => .nil
  | _, _, .cons ⟨p, h1, h2, h3⟩ t => .cons ⟨p, h1, h2.same (ex_same e), h3⟩ (DrawnAt.ex e t)
theorem DrawnAt.at_ {H : Hp} : ∀ {xs : List V} {rs : List RuleD} {i : Nat} {x : V}, DrawnAt H xs rs → xs[i]? = some x → ∃ p r, x = .ref p ∧ rs[i]? = some r ∧ RuleAt H p r ∧ r.Ok
  | _, _, _, _, .nil, h => by simp at h
  | _, _, 0, _, .cons ⟨p, h1, h2, h3⟩ _, h => by
    have e := Option.some.inj h
    exact ⟨p, _, by rw [← e, h1], rfl, h2, h3⟩
  | _, _, i + 1, _, .cons _ t, h => DrawnAt.at_ (i := i) t h
theorem paired_snoc {α β : Type} {R : α → β → Prop} : ∀ {xs : List α} {ys : List β} {x : α} {y : β}, Paired R xs ys → R x y → Paired R (xs ++ [x]) (ys ++ [y])
  | _, _, _, _, .nil, h => .cons h .nil
  | _, _, _, _, .cons h t, h2 => .cons h (paired_snoc t h2)
/-- list(x) of a list or a tuple -/
abbrev rListOf (K : PySem.W.Frag) : List V → Hp → VK → Prop := fun xs H Q => ∃ p ys, xs = [.ref p] ∧ (SqL K H p ys ∨ SqT K H p ys) ∧ ∀ l, H l = none → Q (.ref l) (upd H l (.lst ys))
theorem paired_len {α β : Type} {R : α → β → Prop} : ∀ {xs : List α} {ys : List β}, Paired R xs ys → xs.length = ys.length
  | _, _, .nil => rfl
  | _, _, .cons _ t => congrArg (· + 1) (paired_len t)
theorem range_at {α β : Type} (rs : List α) {n : Nat} (hn : n = rs.length) (v : Nat → β) (g : α → β) (h : ∀ i r, rs[i]? = some r → v i = g r) : (List.range n).map v = rs.map g := by
  subst hn
  refine List.ext_getElem? fun i => ?_
  rw [List.getElem?_map, List.getElem?_map]
  by_cases hi : i < rs.length
  · rw [List.getElem?_range hi, List.getElem?_eq_getElem hi]
    exact congrArg some (h i _ (List.getElem?_eq_getElem hi))
  · rw [List.getElem?_eq_none (by rw [List.length_range]; omega), List.getElem?_eq_none (by omega)]
    rfl
theorem RuleAt.updL {H : Hp} {D p : Addr} {zs : List V} {r : RuleD} {o : HO} (hD : H D = some (.lst zs)) (h : RuleAt H p r) : RuleAt (upd H D o) p r := by
  obtain ⟨t, d, h1, h2, h3⟩ := h
  refine ⟨t, d, ?_, ?_, ?_⟩
  · rw [upd_ne (ne_of h1 hD (fun z => nomatch z))]
    exact h1
  · rw [upd_ne (ne_of h2 hD (fun z => nomatch z))]
    exact h2
  · rw [upd_ne (ne_of h3 hD (fun z => nomatch z))]
    exact h3
theorem DrawnAt.updL {H : Hp} {D : Addr} {zs : List V} {o : HO} (hD : H D = some (.lst zs)) : ∀ {xs : List V} {rs : List RuleD}, DrawnAt H xs rs → DrawnAt (upd H D o) xs rs
  | _, _, .nil => .nil
  | _, _, .cons ⟨p, h1, h2, h3⟩ t => .cons ⟨p, h1, h2.updL hD, h3⟩ (DrawnAt.updL hD t)
theorem sqt_updL {K : PySem.W.Frag} {H : Hp} {D a : Addr} {zs xs : List V} {o : HO} (hD : H D = some (.lst zs)) (h : SqT K H a xs) : SqT K (upd H D o) a xs := by
  rcases h with (h | ⟨u, h⟩) | h
  · exact .inl (.inl (by rw [upd_ne (ne_of h hD (fun z => nomatch z))]; exact h))
  · exact .inl (.inr ⟨u, by rw [upd_ne (ne_of h hD (fun z => nomatch z))]; exact h⟩)
  · exact .inr h
theorem RuleObj.updL {K : PySem.W.Frag} {C : Addr} {H : Hp} {D p : Addr} {zs : List V} {r : RuleD} {o : HO} (hD : H D = some (.lst zs)) (h : RuleObj K C H p r) : RuleObj K C (upd H D o) p r := by
  obtain ⟨dx, t, d, h1, h2, h3⟩ := h
  refine ⟨dx, t, d, ?_, sqt_updL hD h2, sqt_updL hD h3⟩
  rw [upd_ne (ne_of h1 hD (fun z => nomatch z))]
  exact h1
theorem RulesAt.updL {K : PySem.W.Frag} {C : Addr} {H : Hp} {D : Addr} {zs : List V} {o : HO} (hD : H D = some (.lst zs)) : ∀ {xs : List V} {rs : List RuleD}, RulesAt K C H xs rs → RulesAt K C (upd H D o) xs rs
  | _, _, .nil => .nil
  | _, _, .cons ⟨p, h1, h2⟩ t => .cons ⟨p, h1, h2.updL hD⟩ (RulesAt.updL hD t)
section
variable {K : PySem.W.Frag} {CR CP : Addr} {σ : L2.St} {H : Hp} {tl te : TE}
theorem el_rulesL {a : Addr} {xs : List V} {rs : List RuleD} {j : Nat} {vs : List Nat} (g : RuleD → V) (h : Ev tl σ H (.ref a)) (hx : SqL K H a xs) (hR : RulesAt K CR H xs rs) (hz : xs.length ≤ 40000) (hw : ∀ x, wipe ((wipe σ vs).set j (some x)) vs = wipe σ vs)
    (he : ∀ p r H1, Ex H H1 → r ∈ rs → RuleObj K CR H1 p r → Ev te ((wipe σ vs).set j (some (.ref p))) H1 (g r)) : EvL (tLc (iList K tl) (gName j) tYes te vs) σ H (rs.map g) := by
  have e : (List.range xs.length).map (fun i => ((rs[i]?).map g).getD .non) = rs.map g := range_at rs (paired_len hR) _ g fun i r hi => by rw [hi]; rfl
  rw [← e, ← given_all]
  refine Evl.el_lcL (fun _ => true) _ h hx hz hw (fun _ _ _ _ _ => et_yes) (fun i x H1 e1 hi _ => ?_)
  obtain ⟨p, r, rfl, hr, ho⟩ := hR.at_ hi
  show Ev te _ H1 (((rs[i]?).map g).getD .non)
  rw [hr]
  exact he p r H1 e1 (List.mem_of_getElem? hr) (ho.ex e1)
theorem el_rulesT {a : Addr} {xs : List V} {rs : List RuleD} {j : Nat} {vs : List Nat} (g : RuleD → V) (h : Ev tl σ H (.ref a)) (hx : SqT K H a xs) (hR : RulesAt K CR H xs rs) (hz : xs.length ≤ 40000) (hw : ∀ x, wipe ((wipe σ vs).set j (some x)) vs = wipe σ vs)
    (he : ∀ p r H1, Ex H H1 → r ∈ rs → RuleObj K CR H1 p r → Ev te ((wipe σ vs).set j (some (.ref p))) H1 (g r)) : EvL (tLc (iTup K tl) (gName j) tYes te vs) σ H (rs.map g) := by
  have e : (List.range xs.length).map (fun i => ((rs[i]?).map g).getD .non) = rs.map g := range_at rs (paired_len hR) _ g fun i r hi => by rw [hi]; rfl
  rw [← e]
  refine el_lcT _ h hx hz hw (fun i x H1 e1 hi => ?_)
  obtain ⟨p, r, rfl, hr, ho⟩ := hR.at_ hi
  show Ev te _ H1 (((rs[i]?).map g).getD .non)
  rw [hr]
  exact he p r H1 e1 (List.mem_of_getElem? hr) (ho.ex e1)
theorem rd_some {a b : Addr} {Q : VK} (h2 : ∀ x, ((wipe σ [17]).set 17 (some x))[2]? = some (some (.ref a))) (hw : ∀ x, wipe ((wipe σ [17]).set 17 (some x)) [17] = wipe σ [17]) (hd : Deal H a b)
    (q : ∀ L H' xs rs, Kp a b H H' → H' L = some (.lst xs) → xs.length = 6 → DrawnAt H' xs rs → Q (.ref L) H') : tLc (iRng1 (tCons (tC (V.int 6)) tNil)) (gName 17) tYes (tCall spWideRule [] E0 (tCons (tVar 2) tNil)) [17] σ H Q := by
  refine ⟨6, rfl, by decide, by decide, fun L hL => ?_⟩
  obtain ⟨ns, m, ha, hb, hd3⟩ := id hd.ex
  have na : L ≠ a := fun z => by rw [z, ha] at hL; cases hL
  have nb : L ≠ b := fun z => by rw [z, hb] at hL; cases hL
  have up : ∀ {H' : Hp} {o : HO}, Deal H' a b → Deal (upd H' L o) a b := fun {H' o} ⟨ns, m, ha, hb, hd3⟩ => ⟨ns, m, by rw [upd_ne na.symm]; exact ha, by rw [upd_ne nb.symm]; exact hb, hd3⟩
  have kp : ∀ {H' : Hp} {o : HO}, Kp a b H H' → Kp a b H (upd H' L o) := fun {H' o} k x u h1 h2 h3 => by
    rw [upd_ne (ne_of_none h3 hL)]
    exact k x u h1 h2 h3
  refine lc_range (lo := 0) (n := 6) (fun i H' => Kp a b H H' ∧ Deal H' a b ∧ ∃ xs rs, H' L = some (.lst xs) ∧ xs.length = i ∧ DrawnAt H' xs rs) ⟨kp (Kp.refl _ _ _), up hd, [], [], upd_same, rfl, .nil⟩ ?_ ?_
  · rintro i H' hi ⟨k, d, xs, rs, h3, h4, h5⟩
    refine ⟨hw _, ?_⟩
    simp only [tYes, eq_self, if_true]
    refine ⟨_, h2 _, a, b, rfl, d, fun p r H4 ok k4 d4 at4 => ?_⟩
    have h3' := k4 _ _ na nb h3
    exact ⟨xs, h3', by rw [h4]; exact Nat.lt_of_lt_of_le hi (by decide), kp (k.trans k4), up d4, _, rs ++ [r], upd_same, by rw [List.length_append, h4]; rfl, paired_snoc ((h5.kp k4 d).updL h3') ⟨p, rfl, at4.updL h3', ok⟩⟩
  · rintro H' ⟨k, d, xs, rs, h3, h4, h5⟩
    exact q L H' xs rs k h3 h4 h5
theorem rd_made {a : Addr} {xs : List V} {rs : List RuleD} {Q : VK} {a0 a1 a2 a4 a5 a6 a7 a8 a9 a10 a11 a12 a13 a14 a15 a16 a17 : Option V} (hx : SqL K H a xs) (hz : xs.length ≤ 1000) (hR : DrawnAt H xs rs)
    (q : ∀ L H' ys, Ex H H' → H' L = some (.lst ys) → RulesAt K CR H' ys rs → Q (.ref L) H') :
    tLc (iList K (tVar 3)) (gTup K 3 (gCons (gName 14) (gCons (gName 15) (gCons (gName 16) gNil)))) tYes (tR K CR (tCons (tVar 14) (tCons (tCB (rListOf K) (tCons (tVar 15) tNil)) (tCons (tVar 16) tNil)))) [14, 15, 16]
      [a0, a1, a2, some (.ref a), a4, a5, a6, a7, a8, a9, a10, a11, a12, a13, a14, a15, a16, a17] H Q := by
  refine ⟨_, rfl, a, rfl, ⟨xs, hx⟩, fun L hL => ?_⟩
  refine lc_list (xs := xs) (fun i H' => Ex H H' ∧ ∃ ys, H' L = some (.lst ys) ∧ RulesAt K CR H' ys (rs.take i)) ⟨Ex.new hL, [], upd_same, by rw [List.take_zero]; exact .nil⟩ (fun i H' _ p => Evl.ex_l p.1 hx) ?_ ?_
  · rintro i x H' hi ⟨e, ys, h3, h4⟩
    obtain ⟨p, r, rfl, hr, ⟨t, d, h5, h6, h7⟩, ok⟩ := hR.at_ hi
    refine ⟨p, _, rfl, Evl.st_of (e _ _ h5), rfl, _, _, rfl, _, _, rfl, _, _, rfl, rfl, rfl, ?_⟩
    simp only [tYes, eq_self, if_true]
    refine (ev_rule (K := K) (CR := CR) (H := H') (r := r) (Evl.ev_var rfl) (fun H1 e1 Q q => ⟨.ref t, rfl, t, _, rfl, .inr (Evl.st_of (e1 _ _ (e _ _ h6))), fun l hl => q l _ (Ex.new hl) (.inl (Evl.sq_of upd_same))⟩) (EvP.of (p := d) (Evl.ev_var rfl) fun H1 e1 => .inr (Evl.st_of (e1 _ _ (e _ _ h7)))) ok.good) H' (Ex.refl _) _ fun q2 H4 e4 ro => ?_
    have h3' := e4 _ _ h3
    have hn : ys.length < sizeLine := by
      rw [paired_len h4, List.length_take]
      have := (List.getElem?_eq_some_iff.mp hi).1
      exact Nat.lt_of_le_of_lt (Nat.min_le_left _ _) (Nat.lt_of_lt_of_le this (Nat.le_trans hz (by decide)))
    refine ⟨ys, h3', hn, Ex.mut (e.trans e4) hL, _, upd_same, ?_⟩
    rw [List.take_add_one, hr]
    exact paired_snoc ((h4.ex e4).updL h3') ⟨q2, rfl, ro.updL h3'⟩
  · rintro H' ⟨e, ys, h3, h4⟩
    rw [paired_len hR, List.take_length] at h4
    exact q L H' ys e h3 h4
theorem PlanObj.ex {H' : Hp} {p : Addr} {ks : List Str} {xs : List V} (h : PlanObj K CP H p ks xs) (e : Ex H H') : PlanObj K CP H' p ks xs := by
  obtain ⟨dx, a, b, h1, h2, h3⟩ := h
  exact ⟨dx, a, b, e _ _ h1, Evl.ex_t e h2, Evl.ex_t e h3⟩
theorem ev_plan {ta tb : TE} {b : Addr} {ks : List Str} {xs : List V} {rs : List RuleD} (ha : EvP ta σ H (fun a H2 => SqL K H2 a (ks.map V.str) ∨ SqT K H2 a (ks.map V.str))) (hl : ks.length ≤ 1) (hk : ∀ k ∈ ks, k ∈ lettersL) (hb : Ev tb σ H (.ref b)) (hx : SqL K H b xs) (hR : RulesAt K CR H xs rs) (hz : xs.length ≤ 1000) :
    EvP (tMake CP (spPlanInit1 K CR CP) [] E0 (tCons ta (tCons tb tNil))) σ H (fun p H2 => PlanObj K CP H2 p ks xs) := fun H1 e1 Q q => by
  refine ha H1 e1 _ fun a H2 e2 sa => hb H2 (e1.trans e2) _ fun H3 e3 x dx nx ndx ne => ?_
  have e4 : Ex H3 (upd (upd H3 dx (.own x)) x (.ins CP dx [])) := (Ex.new ndx).trans (Ex.new (by rw [upd_ne ne.symm]; exact nx))
  have e14 := ((e1.trans e2).trans e3).trans e4
  exact ⟨x, a, b, dx, ks, xs, rs, rfl, upd_same, exB (e3.trans e4) sa, hl, hk, .inl (Evl.ex_l e14 hx), hR.ex e14, hz, fun H5 k5 ro => ⟨rfl, q x H5 ((e2.trans e3).trans fun c o hc => k5 c o (ne_of_none hc nx) (e4 _ _ hc)) ro⟩⟩
theorem ev_eqS {ta tb : TE} {x y : Str} (ha : Ev ta σ H (.str x)) (hb : Ev tb σ H (.str y)) (hx : PyData.canLay0 (.str x) = true) (hy : PyData.canLay0 (.str y) = true) : Ev (tOp (rEqD K) ta tb) σ H (.bl (decide (x = y))) := by
  have sh : ∀ x : Str, PyData.canLay0 (.str x) = true → SeqAt.shaped (.str x) = true := fun x hx => by
    show (PyData.canLay0 (.str x) && decide ((PyData.str x).depth ≤ 64)) = true
    rw [hx]
    rfl
  refine Evl.ev_op ha hb fun H1 e _ q => ⟨_, _, .str x, .str y, sh x hx, sh y hy, ?_⟩
  rw [show PyData.eqv (.str x) (.str y) = (x == y) from rfl, show (x == y) = decide (x = y) by by_cases h : x = y <;> simp [h]]
  exact q H1 (Ex.refl H1)
end
end Ov


namespace Ov
open PySem PySem.Spec PyProof.Rows L2
open Evl (pss_cut tCut Ex Ev EvT EvL EvA EvU)
/-! ### a class that stands in a local is called -/
section
variable {X : Cx} {CX : CXT} {k i : Nat} {f C : Addr} {fd : FuncData} {ps : List Str} {sp : Sp} {E : XK} {x : Str} {p pos : Pos} {e : Expr} {es : List Expr} {t : TA}
def tMakeV (i : Nat) (C : Addr) (sp : Sp) (E : XK) (t : TA) : TE := fun σ H Q => σ[i]? = some (some (.ref C)) ∧ tMake C sp [] E t σ H Q
theorem pe_makeV (i : Nat) (M : Mk X.K C f) (F : FnOk X.prog X.w X.K X.mg X.base CX k f fd ps sp) (hr : Room (k + 1) X.A) (hb : Binds X.K fd ps []) (hx : Passes CX X E) (ha : PA X (e :: es) t) (hN : X.N[i]? = some x := by rfl)
    (hv : Vis X.env.scope x := by first | exact Or.inl rfl | exact Or.inr (Or.inl rfl) | exact Or.inr (Or.inr rfl)) (hd : (x == ("__debug__" : Str)) = false := by decide) (hcd : (x == ("__classdict__" : Str)) = false := by decide)
    (he : starEach (e :: es) X.env = (false, eval e X.env) :: starEach es X.env := by rfl) (hpl : (backTo pos (starEach es X.env)).any (·.1) = false := by rfl) :
    PE X (.Call (.Name x p) (e :: es) [] pos) (tMakeV i C sp E t) := by
  refine ⟨fun pins s σ H Q I h => ?_⟩
  obtain ⟨h1, h2⟩ := h
  have hp : PE X (.Name x p) (tVar i) := pv i hN hv hd hcd
  refine wpAny_Call_Name_kw (thn (hp.run pins s σ H (fun v H1 => v = .ref C ∧ tMake C sp [] E t σ H1 Q) I ⟨_, h1, rfl, h2⟩) fun v s1 hh => ?_)
  obtain ⟨y, H1, I1, r1, e1, q1⟩ := hh
  subst e1
  obtain rfl : v = Value.ref C := r1
  refine PySem.W.callWith_K (h₀ := X.base) I1.ok.mod.kin M.kp (thn (ha.run pos pins s1 σ H1 _ I1 q1) fun us s2 h3 => ?_) he hpl
  obtain ⟨vs, H2, I2, r, q⟩ := h3
  exact ⟨I2.kIn, run_make M F hr hb .nil hx I2 r q⟩
end
/-! ### a rule read from its text -/
def spSplit (K : PySem.W.Frag) : Sp := fun vs H Q _ => ∃ (g x y : Str), vs = [.str g, .str x, .str y] ∧ (y.length == 0) = false ∧ g.length ≤ 100000 ∧ x.length ≤ 99990 ∧ ∀ p H', Ex H H' → (SqL K H' p ((if g = Str.empty then [] else Txt.split x y).map V.str) ∨ SqT K H' p ((if g = Str.empty then [] else Txt.split x y).map V.str)) → Q (.ref p) H'
theorem truth_str (g : Str) : decide (g ≠ Str.empty) = ((g.length : Int) != 0) := by
  by_cases h : g = Str.empty
  · rw [h]
    rfl
  · have h2 : g.length ≠ 0 := fun z => h (TL.ext_tl (by rw [(TL.len0_tl g).mp z]; rfl))
    rw [decide_eq_true h]
    symm
    simpa using h2
abbrev rPart : V → List V → Hp → VK → Prop := fun x xs H Q => ∃ a b, x = V.str a ∧ xs = [V.str b] ∧ (b.length == 0) = false ∧ a.length ≤ sizeLine ∧ ∀ (p : Addr), H p = none → Q (V.ref p) (upd H p (HO.tup [V.str (Txt.partition a b).fst, V.str (Txt.partition a b).snd.fst, V.str (Txt.partition a b).snd.snd]))
theorem q_part {K : PySem.W.Frag} {σ : L2.St} {H : Hp} {D : Ends} {tz : TS} {n i j k : Nat} {a b x y z : Str} (e : Txt.partition a b = (x, y, z)) (h : σ[n]? = some (some (.str a))) (hb : (b.length == 0) = false) (hz : a.length ≤ sizeLine)
    (c : ∀ H1, Ex H H1 → tz D (((σ.set i (some (.str x))).set j (some (.str y))).set k (some (.str z))) H1) : tSeq (tAsg (tM1 rPart (tVar n) (tC (.str b))) (gTup K 3 (gCons (gName i) (gCons (gName j) (gCons (gName k) gNil))))) tz D σ H := by
  refine ⟨_, h, ⟨_, rfl⟩, a, b, rfl, rfl, hb, hz, fun p np => ⟨p, _, rfl, Evl.st_of upd_same, rfl, _, _, rfl, _, _, rfl, _, _, rfl, rfl, ?_⟩⟩
  rw [e]
  exact c _ (Ex.new np)
section
variable {P : Program} {w : World} {K : PySem.W.Frag} {mg : Str → Option Value} {base : Heap}
theorem scSplitPart : FnScope ["sign", "text", "between"] ["sign", "text", "between"] (defScope sSplitPart) := ⟨rfl, rfl, rfl, by decide +kernel, rfl, by decide +kernel, by decide +kernel⟩
theorem scRuleRead : FnScope ["cls", "text", "condition", "does", "deeds", "start", "asks", "tests", "on", "_", "kind"] ["cls", "text"] (defScope sRuleRead) := ⟨rfl, rfl, rfl, by decide +kernel, rfl, by decide +kernel, by decide +kernel⟩
theorem ok_split_part {f : Addr} {fd : FuncData} (F : Fun K "split_part" "split_part" sSplitPart f fd) : FnOk P w K mg base CX0 1 f fd ["sign", "text", "between"] (spSplit K) := by
  refine F.ok scSplitPart (fun vs H Q E h => ?_) (fun cdv A outer s H vs Q E hr h => ?_)
  · obtain ⟨g, x, y, rfl, _⟩ := h
    rfl
  · obtain ⟨g, x, y, rfl, hy, hg, hx, q⟩ := h
    refine ⟨_, pss_one (ps_ret (pe_ifExp (pt_truth (pv 0) (by intro _; rfl)) (pe_split (pv 1) (pv 2)) (pe_tup pa_nil))), ?_⟩
    refine ⟨_, rfl, decide (g ≠ Str.empty), ⟨size_of hg, truth_str g⟩, ?_⟩
    by_cases h : g = Str.empty
    · rw [decide_eq_false (fun z => z h)]
      rw [if_pos h] at q
      exact iteF ⟨Nat.zero_le _, fun p np => q p _ (Ex.new np) (.inr (Evl.st_of upd_same))⟩
    · rw [decide_eq_true h]
      rw [if_neg h] at q
      exact iteT ⟨_, rfl, ⟨_, rfl⟩, _, rfl, x, y, rfl, rfl, hy, size_of (by omega), fun p np => q p _ (Ex.new np) (.inl (Evl.sq_of upd_same))⟩
end
end Ov


namespace Ov
open PySem PySem.Spec PyProof.Rows L2
open Evl (pss_cut tCut Ex Ev EvT EvL EvA EvU)
def spRuleReadG (K : PySem.W.Frag) (C : Addr) : Sp := fun vs H Q _ => ∃ (r : RuleD), vs = [.ref C, .str (ruleText r)] ∧ r.Good ∧ ∀ p H', Ex H H' → RuleObj K C H' p r → Q (.ref p) H'
theorem ev_split {K : PySem.W.Frag} {σ : L2.St} {H : Hp} {ta : TA} {g x y : Str} {l : List Str} (h : EvA ta σ H [.str g, .str x, .str y]) (hy : (y.length == 0) = false) (hg : g.length ≤ 100000) (hx : x.length ≤ 99990) (e : (if g = Str.empty then [] else Txt.split x y) = l) :
    EvP (tCall (spSplit K) [] E0 ta) σ H (fun p H2 => SqL K H2 p (l.map V.str) ∨ SqT K H2 p (l.map V.str)) := fun H1 e1 Q q => h H1 e1 _ fun H2 e2 => ⟨g, x, y, rfl, hy, hg, hx, fun p H3 e3 st => q p H3 (e2.trans e3) (by rw [← e]; exact st)⟩
section
variable {P : Program} {w : World} {K : PySem.W.Frag} {mg : Str → Option Value} {base : Heap} {a_LETTERS a_LETTER_TESTS a_LETTER_DEEDS a_ANSWER_TESTS a_ANSWER_DEEDS CR CP : Addr} {tA tN : Tok}
theorem ok_rule_read {f fSp fI : Addr} {fd fdSp fdI : FuncData} (F : Fun K "read" "Rule.read" sRuleRead f fd) (T : TxR K mg a_LETTERS a_LETTER_TESTS a_LETTER_DEEDS a_ANSWER_TESTS a_ANSWER_DEEDS CR tA tN) (D_split_part : Df K mg "split_part" sSplitPart ["sign", "text", "between"] fSp fdSp)
    (mkR : Mk K CR fI) (G_init : FnOk P w K mg base CX0 2 fI fdI ["self", "kind", "tests", "deeds"] (spRuleInit K CR)) (b_init : Binds K fdI ["self", "kind", "tests", "deeds"] []) :
    FnOk P w K mg base CX0 4 f fd ["cls", "text"] (spRuleReadG K CR) := by
  have G_split_part : FnOk P w K mg base CX0 1 fSp fdSp ["sign", "text", "between"] (spSplit K) := ok_split_part D_split_part.F
  refine F.ok scRuleRead (fun vs H Q E h => ?_) (fun cdv A outer s H vs Q E hr h => ?_)
  · obtain ⟨r, rfl, _⟩ := h
    rfl
  · obtain ⟨r, rfl, g, q⟩ := h
    refine ⟨_, pss_cons (ps_asg (pe_partition (pv 1) pe_str) (pg_tup (by rfl) (pgs_cons (pg_name (i := 2) scRuleRead.nd rfl (Or.inl rfl)) (pgs_cons (pg_name (i := 3) scRuleRead.nd rfl (Or.inl rfl)) (pgs_cons (pg_name (i := 4) scRuleRead.nd rfl (Or.inl rfl)) pgs_nil)))))
      (pss_cons (ps_asg (pe_partition (pv 2) pe_str) (pg_tup (by rfl) (pgs_cons (pg_name (i := 5) scRuleRead.nd rfl (Or.inl rfl)) (pgs_cons (pg_name (i := 6) scRuleRead.nd rfl (Or.inl rfl)) (pgs_cons (pg_name (i := 7) scRuleRead.nd rfl (Or.inl rfl)) pgs_nil)))))
      (pss_cons (ps_asg (pe_partition (pv 5) pe_str) (pg_tup (by rfl) (pgs_cons (pg_name (i := 8) scRuleRead.nd rfl (Or.inl rfl)) (pgs_cons (pg_name (i := 9) scRuleRead.nd rfl (Or.inl rfl)) (pgs_cons (pg_name (i := 10) scRuleRead.nd rfl (Or.inl rfl)) pgs_nil)))))
      (pss_cons (ps_if (pt_cmpR op_ne (pv 8) pe_str (nomark _)) (pss_one ps_never) pss_nil)
      (pss_one (ps_try_thru0 (pss_one (ps_ret (pe_makeV (sp := spRuleInit K CR) (E := E0) 0 mkR G_init (hr.mono (by decide)) b_init pass0 (pa_cons (pv 10) (pa_cons (pe_call G_split_part (hr.mono (by decide)) rfl D_split_part.g D_split_part.F.kp D_split_part.b .nil pass0 (pa_cons (pv 6) (pa_cons (pv 7) (pa_cons pe_str pa_nil)))) (pa_cons (pe_call G_split_part (hr.mono (by decide)) rfl D_split_part.g D_split_part.F.kp D_split_part.b .nil pass0 (pa_cons (pv 3) (pa_cons (pv 4) (pa_cons pe_str pa_nil)))) pa_nil))))))))))), ?_⟩
    have lk := kinds_len g.k
    have lt := tText_len (fun x hx => testsNot_len (g.ts x hx)) g.nt
    have ld := dText_len (fun x hx => deedsOf_len (g.ds x hx)) g.nd
    have jt := join_small (sep := " and ") (fun x hx => testsNot_len (g.ts x hx)) (by decide) g.nt
    have jd := join_small (sep := " then ") (fun x hx => deedsOf_len (g.ds x hx)) (by decide) g.nd
    have n3 : (Str.ofString "on ").length = 3 := by decide +kernel
    have la : (("on " : Str) ++ r.k ++ tText r.ts).length ≤ 40000 := by rw [Str.length_append, Str.length_append]; omega
    have lb : (("on " : Str) ++ r.k).length ≤ 40000 := by rw [Str.length_append]; omega
    have lr : (ruleText r).length ≤ 100000 := by
      unfold ruleText
      rw [Str.length_append]
      omega
    refine q_part (read1 g) rfl (by decide +kernel) (size_of (by omega)) fun H1 e1 => ?_
    refine q_part (read2 g) rfl (by decide +kernel) (size_of (by omega)) fun H2 e2 => ?_
    refine q_part (read3 r.k) rfl (by decide +kernel) (size_of (by omega)) fun H3 e3 => ?_
    refine Evl.q_when (b := false) (Evl.et_is (Evl.et_test (Evl.ev_op (Evl.ev_var rfl) Evl.ev_c (Evl.rv_ne rfl))) (by decide +kernel)) (fun z => nomatch z) (fun _ H4 e4 => ?_)
    have e14 := ((e1.trans e2).trans e3).trans e4
    have et : (if (if r.ts = [] then ("" : Str) else " if ") = Str.empty then [] else Txt.split (if r.ts = [] then ("" : Str) else Str.join " and " r.ts) " and ") = r.ts := by
      by_cases h : r.ts = []
      · rw [if_pos h, if_pos (by decide +kernel)]
        exact h.symm
      · rw [if_neg h, if_neg (by decide +kernel), if_neg h, read4 g h]
    have ed : (if (if r.ds = [] then ("" : Str) else " do ") = Str.empty then [] else Txt.split (if r.ds = [] then ("" : Str) else Str.join " then " r.ds) " then ") = r.ds := by
      by_cases h : r.ds = []
      · rw [if_pos h, if_pos (by decide +kernel)]
        exact h.symm
      · rw [if_neg h, if_neg (by decide +kernel), if_neg h, read5 g h]
    have z1 : (if r.ts = [] then ("" : Str) else " if ").length ≤ 100000 := by split <;> decide +kernel
    have z2 : (if r.ds = [] then ("" : Str) else " do ").length ≤ 100000 := by split <;> decide +kernel
    have z3 : (if r.ts = [] then ("" : Str) else Str.join " and " r.ts).length ≤ 99990 := by
      split
      · decide +kernel
      · have := jt.2
        omega
    have z4 : (if r.ds = [] then ("" : Str) else Str.join " then " r.ds).length ≤ 99990 := by
      split
      · decide +kernel
      · have := jd.2
        omega
    refine ⟨rfl, ev_rule (r := r) (Evl.ev_var rfl) (ev_split (Evl.ea_cons (Evl.ev_var rfl) (Evl.ea_cons (Evl.ev_var rfl) (Evl.ea_cons Evl.ev_c Evl.ea_nil))) (by decide +kernel) z1 z3 et) (ev_split (Evl.ea_cons (Evl.ev_var rfl) (Evl.ea_cons (Evl.ev_var rfl) (Evl.ea_cons Evl.ev_c Evl.ea_nil))) (by decide +kernel) z2 z4 ed) g H4 (Ex.refl _) _ fun p H5 e5 ro => q p H5 (e14.trans e5) ro⟩
end
end Ov


namespace Ov
open PySem PySem.Spec PyProof.Rows L2
/-! ### a, *b = a list -/
section
open PySem.W PySem.Calls
variable {prog : Program} {w : World} {A : Around} {E : Value → Shared → Prop} {s : Shared}
theorem unpack_first {l : Addr} {y : Value} {ys : List Value} {Q : List Value → Shared → Prop} (hl : s.heap.IsList l (y :: ys).toArray) (hh : A.handled = none) (hz : ys.length ≤ 16000)
    (h : ∀ (h2 : Heap) (tk : Nat), (∀ b u, s.heap.get? b = some u → h2.get? b = some u) → Q [y, .ref h2.objs.size] { s with heap := h2.push { cls := .type "list", data := .seq ys.toArray }, toks := tk }) : wpAny (model prog w) A (unpackItems (.ref l) 2 (some 1)) Q E s := by
  have hlt : l ≠ s.heap.objs.size := by
    obtain ⟨o, ho, _⟩ := hl
    exact Nat.ne_of_lt (Heap.lt_size ho)
  have sz : (y :: ys).toArray.size = ys.length + 1 := by simp
  unfold unpackItems notIterableAtAll
  refine wpAny_bind (wpAny_bind (wpAny_specialOf hl.typeIs slot_list_iter.lookup (wpAny_pure ?_)))
  simp only [Bool.false_eq_true, if_false]
  refine wpAny_bind (wpAny_holding (wpAny_pyIter_list hl ?_))
  refine wpAny_bind (wpAny_holding (kun_draw hlt 1 0 _ _ ⟨_, Heap.get?_push_size _ rfl, rfl, rfl⟩ (hl.push _) (by omega) fun h₁ hit₁ hs₁ => ?_))
  have hl₁ : h₁.IsList l (y :: ys).toArray := (hl.push _).extBut hs₁.extBut hlt
  rw [Nat.zero_add] at hit₁
  obtain ⟨oi, hoi, _⟩ := id hit₁
  obtain ⟨ol, hol, _⟩ := id hl₁
  show wpAny _ _ (if [y].length < 1 then _ else _) _ _ _
  rw [if_neg (by simp)]
  refine wpAny_bind (wpAny_holding (kun_collect (s := { s with heap := h₁ }) (T := "list_iterator") (.inr (.inr (.inl rfl))) (Walks.list (A := A.in1) hh s.heap.objs.size l hlt (y :: ys).toArray) (fun j u st => st.1.typeIs) (k := 1) (by omega) ⟨hit₁, hl₁⟩ (Heap.lt_size hoi) (Heap.lt_size hol) (fun h₂ tk hk => ?_) (by rw [sizeLine_eq]; omega)))
  have he : ∀ b o, b ≠ s.heap.objs.size → s.heap.get? b = some o → h₂.get? b = some o := fun b o hb e => hk b o hb (hs₁.extBut b o hb (Heap.get?_push_of_some _ e))
  have ke : ∀ b o, s.heap.get? b = some o → h₂.get? b = some o := fun b o e => he b o (Nat.ne_of_lt (Heap.lt_size e)) e
  show wpAny _ _ (if ys.length < 0 then _ else _) _ _ _
  rw [if_neg (by omega)]
  show wpAny _ _ (newList (ys.take (ys.length - 0)) >>= fun d => pure ([y] ++ [d] ++ ys.drop (ys.length - 0))) _ _ _
  rw [Nat.sub_zero, List.take_length, List.drop_length]
  exact wpAny_bind (wpAny_newList (wpAny_pure (h _ tk ke)) (by rw [sizeLine_eq]; omega))
end
open Evl (Ex)
/-- first, *rest = a list -/
def gFirst (K : PySem.W.Frag) (t : TGs) : TG := fun v σ H Q => ∃ a x xs, v = .ref a ∧ SqL K H a (x :: xs) ∧ xs.length ≤ 16000 ∧ ∀ p, H p = none → t [x, .ref p] σ (upd H p (.lst xs)) Q
theorem pg_first {X : Cx} {pos : Pos} {es : List Expr} {k : Nat} {t : TGs} (hc : X.calm = true) (h : PGs X es t)
    (hn : (assignEach es X.env).length = 2 := by rfl) (hst : (assignEach es X.env).findIdx? (·.1) = some 1 := by rfl) : PG X (.Tuple es k pos) (gFirst X.K t) := by
  refine ⟨fun pins s σ H v u Q I r hw => ?_⟩
  obtain ⟨a, x, xs, e1, hq, hl, hw⟩ := hw
  subst e1
  cases r
  obtain ⟨its, rv, ⟨o, m, e, c, d, q⟩, hz⟩ := I.list hq
  cases rv with
  | @cons _ y _ ys rx rs =>
    rw [PyProof.Rows.assign_Tuple]
    refine wpAny_bind (wpAny_standAt ?_)
    unfold unpack
    rw [hn, hst]
    refine wpAny_bind (wpAny_holding (unpack_first ⟨o, e, c, m, q⟩ (I.ok.hd hc) (by rw [← rs.length]; exact hl) fun h2 tk ke => ?_))
    have nH : H h2.objs.size = none := (I.hok.kept ke).fresh (Nat.le_refl _)
    have nh : s.heap.get? h2.objs.size = none := by
      cases g : s.heap.get? h2.objs.size with
      | none => rfl
      | some u => exact absurd (Heap.lt_size (ke _ _ g)) (Nat.lt_irrefl _)
    have I1 : Inv X pins σ (upd H h2.objs.size (.lst xs)) { s with heap := h2.push { cls := .type "list", data := .seq ys.toArray }, toks := tk } :=
      I.laidN (fun b u g => Heap.get?_push_of_some _ (ke b u g)) nh nH ⟨by simp only [List.length_cons] at hz; omega, ys, 0, rs, Heap.get?_push_size _ rfl⟩
    exact h.run pins _ σ _ _ _ Q I1 (.cons rx (.cons (a := V.ref h2.objs.size) rfl .nil)) (hw _ nH)
/-- .. its last target, starred -/
theorem pgs_star {X : Cx} {e : Expr} {pos : Pos} {t : TG} (h : PG X e t) : PGs X [.Starred e pos] (gCons t gNil) := by
  refine ⟨fun pins s σ H vs us Q I r hw => ?_⟩
  obtain ⟨v, vr, e1, hw⟩ := hw
  subst e1
  cases r with
  | cons r rr =>
    refine assignInOrder_cons (thn (h.run pins s σ H _ _ _ I r hw) fun _ s1 ⟨σ1, H1, I1, q1⟩ => ?_)
    obtain ⟨rfl, q1⟩ := q1
    cases rr
    exact assignInOrder_nil ⟨σ1, H1, I1, q1⟩
end Ov


namespace Ov
open PySem PySem.Spec PyProof.Rows L2
open Evl (Ex)
/-! ### read_rule of a good rule's text -/
theorem scReadRule : FnScope ["line", "at"] ["line", "at"] (defScope sReadRule) := ⟨rfl, rfl, rfl, by decide +kernel, rfl, by decide +kernel, by decide +kernel⟩
def spReadRuleG (K : PySem.W.Frag) (C : Addr) : Sp := fun vs H Q _ => ∃ (r : RuleD) (n : Int), vs = [.str (ruleText r), .int n] ∧ r.Good ∧ ∀ p H', Ex H H' → RuleObj K C H' p r → Q (.ref p) H'
section
variable {P : Program} {w : World} {K : PySem.W.Frag} {mg : Str → Option Value} {base : Heap} {CR pR gR : Addr} {mc : Value}
theorem ok_read_rule {f : Addr} {fd : FuncData} (F : Fun K "read_rule" "read_rule" sReadRule f fd) (g_Rule : mg "Rule" = some (.ref CR)) (rd : ClX.CRead K CR mc) (cm : ClX.CMet K CR mc "read" pR gR)
    (G_rd : FnR P w K mg base CX0 4 gR (spRuleReadG K CR)) :
    FnOk P w K mg base CX0 5 f fd ["line", "at"] (spReadRuleG K CR) := by
  refine F.ok scReadRule (fun vs H Q E h => ?_) (fun cdv A outer s H vs Q E hr h => ?_)
  · obtain ⟨r, n, rfl, _⟩ := h
    rfl
  · obtain ⟨r, n, rfl, g, q⟩ := h
    refine ⟨_, pss_one (ps_try_thru0 (pss_one (ps_ret (ClX.pe_cmeth (E := E0) (pe_glob (v := .ref CR) rfl g_Rule rfl) rd cm G_rd (hr.mono (by decide)) pass0 (pa_cons (pv 0) pa_nil))))), ?_⟩
    exact ⟨rfl, _, rfl, r, rfl, g, fun p H' e ro => q p H' e ro⟩
end
end Ov


namespace Ov
open PySem PySem.Spec PyProof.Rows L2
/-! ### enumerate(list, start=n): the library's walk from a count, as a turn of the layer -/
/-- a list's items at each turn, counted from c -/
def Itn (K : PySem.W.Frag) (a : Addr) (c : Int) : It where
  go i H := ∃ xs x, SqL K H a xs ∧ xs[i]? = some x
  yld i H v H' := ∃ p x, v = .ref p ∧ H p = none ∧ H' = upd H p (.tup [.int (c + (i : Int)), x]) ∧ ∀ xs, SqL K H a xs → xs[i]? = some x
  stop i H := ∃ xs, SqL K H a xs ∧ xs.length = i
/-- how the counting iterator stands -/
def CntAt (a e it : Addr) (c : Int) (i : Nat) (h : Heap) : Prop := ((∃ old, IsEnum h e it (c + (i : Int)) old) ∧ h.IsListIter it a i) ∧ e ≠ it ∧ a ≠ it ∧ a ≠ e
theorem CntAt.stands {a e it : Addr} {c : Int} {i : Nat} {h : Heap} {its : List Value} (st : CntAt a e it c i h) (l : h.IsList a its.toArray) : (∃ old, IsEnum h e it (c + (i : Int)) old) ∧ h.IsListIter it a i ∧ h.IsList a its.toArray :=
  ⟨st.1.1, st.1.2, l⟩
theorem turn_count {P : Program} {w : World} {K : PySem.W.Frag} {elts : List Expr} {kk : Nat} {tpos : Pos} (a e it : Addr) (c : Int) : Turn P w K (.Tuple elts kk tpos) (Itn K a c) [e, it] e (CntAt a e it c) where
  mem := List.mem_cons_self
  obj := by
    rintro i h ⟨⟨⟨old, he⟩, o, ho, _, hd⟩, _⟩ b hb
    rcases List.mem_cons.mp hb with rfl | hb
    · exact ⟨_, he, fun v q => nomatch q⟩
    · obtain rfl := List.mem_singleton.mp hb
      exact ⟨o, ho, fun v q => by rw [hd] at q; cases q⟩
  keep := by
    rintro i h h' ⟨⟨⟨old, he⟩, hi⟩, r⟩ k
    exact ⟨⟨⟨old, k e (by simp) _ he⟩, hi.at fun o q => k it (by simp) o q⟩, r⟩
  item := by
    rintro X rfl rfl rfl hc i pins s σ H E I hf st ⟨xs, x, hq, hx⟩
    obtain ⟨its, rv, p, hz⟩ := I.list hq
    obtain ⟨u, hu, ru⟩ := rv.get hx
    have hl : s.heap.IsList a its.toArray := p.isList
    obtain ⟨n1, n2, n3⟩ := st.2
    have W := WalksT.enumFrom (A := X.A) c (Draws.list (prog := X.prog) (w := X.w) (A := X.A.in1) (I.ok.hd hc) it a n2 its.toArray) e n1 (by simp [n1, n3.symm]) (by simp)
    refine W.item i s _ _ (by simpa using (List.getElem?_eq_some_iff.mp hu).1) (st.stands hl) fun T vals h1 tk hv hT tup mid k1 => ?_
    obtain ⟨t, u', hu', rfl⟩ := hv
    obtain rfl : u = u' := by
      rw [List.getElem?_toArray, hu] at hu'
      exact Option.some.inj hu'
    have hw := W.apart i T h1 mid
    refine ⟨_, rfl, W.go elts kk tpos i T { s with heap := h1, toks := tk } _ _ mid fun h2 st2 k2 => ?_⟩
    have new : ObjOk X.prog X.w (upd H T (.tup [.int (c + (i : Int)), x])) h2 T (.tup [.int (c + (i : Int)), x]) := by
      obtain ⟨o, g, cl, n, d⟩ := tup
      exact ⟨by show 2 ≤ sizeLine; decide, [.int (c + (i : Int)) t, u], .cons ⟨_, rfl⟩ (.cons ru .nil), ⟨o, k2 T o hw g, cl, n, d⟩⟩
    refine ⟨.ref T, _, I.turnedNew (t' := tk) (fun b o hb q => k2 b o hb (k1 b o hb q)) hf hT new, rfl, ⟨T, x, rfl, I.hok.fresh hT, rfl, fun ys hy => by rw [I.list_inj hy hq]; exact hx⟩, ⟨⟨st2.1, st2.2.1⟩, n1, n2, n3⟩, fun b hb => ?_⟩
    have hb1 : b ≠ T := fun z => hw (by rw [← z]; exact hb)
    rw [upd_ne hb1]
    exact (hf b hb).1
  done := by
    rintro X rfl rfl rfl hc i pins s σ H E I hf st ⟨xs, hq, hx⟩
    obtain ⟨its, rv, p, hz⟩ := I.list hq
    obtain ⟨n1, n2, n3⟩ := st.2
    have W := WalksT.enumFrom (A := X.A) c (Draws.list (prog := X.prog) (w := X.w) (A := X.A.in1) (I.ok.hd hc) it a n2 its.toArray) e n1 (by simp [n1, n3.symm]) (by simp)
    have e : its.toArray.size = i := by simp [← hx, rv.length]
    refine W.done s _ _ (by rw [e]; exact st.stands p.isList) fun h1 tk k1 => ⟨rfl, I.turnedL (ch := [_, _]) k1 hf⟩
  self := by
    rintro A i s Q E ⟨⟨⟨old, he⟩, _⟩, _⟩ h
    exact wpAny_pyIter_enum he h
/-- enumerate(a list, start=c) -/
def iCount (K : PySem.W.Frag) (ta tk : TA) : TI := fun σ H R => ta σ H fun vs H1 => tk σ H1 fun ks H2 => ∃ (a : Addr) (xs : List V) (c : Int), vs = [.ref a] ∧ ks = [.int c] ∧ (-1000 ≤ c ∧ c ≤ 1000) ∧ SqL K H2 a xs ∧ R (Itn K a c) H2
theorem pi_count {X : Cx} {e : Expr} {kws : List Keyword} {ta tk : TA} {p pos tpos : Pos} {elts : List Expr} {kk : Nat} (hg : Gl X "enumerate") (hm : X.mg "enumerate" = none) (ha : PA X [e] ta) (hk : PK X kws tk)
    (hks : (backToKw pos (keywordEach kws X.env)).filterMap (·.1) = [Str.ofString "start"] := by rfl) (hall : (backToKw pos (keywordEach kws X.env)).all (·.1.isSome) = true := by rfl) (hs : starEach [e] X.env = (false, eval e X.env) :: starEach [] X.env := by rfl)
    (hpl : ((backTo pos (starEach [e] X.env)).any (·.1) || (backToKw pos (keywordEach kws X.env)).any (·.1.isNone)) = false := by rfl) : PI X (.Tuple elts kk tpos) (.Call (.Name "enumerate" p) [e] kws pos) (iCount X.K ta tk) := by
  refine ⟨fun pins s σ H R I h => ?_⟩
  refine wpAny_Call_Name_kw (ld_blt I hg hm boot_enumerate ?_)
  refine PySem.W.callWith_of (P := fun _ => True) hpl (fun h _ => ⟨.machine, .inr (.inl rfl), PySem.W.Looks.of_pure rfl⟩) (PyProof.Rows.evalArgs_kw2 hall (thn (ha.run pos pins s σ H _ I h) fun us s1 ⟨vs, H1, I1, r1, q1⟩ => ?_) hs)
  refine thn (hk.run pos pins s1 σ H1 _ I1 q1) fun ws s2 ⟨zs, H2, I2, rz, q2⟩ => ⟨trivial, ?_⟩
  obtain ⟨a, xs, c, ev, ez, ⟨c0, c1⟩, hq, q⟩ := q2
  subst ev ez
  cases r1 with
  | cons r rr =>
    cases rr
    cases r
    cases rz with
    | cons z zz =>
      cases zz
      obtain ⟨t, rfl⟩ := z
      obtain ⟨its, rv, pl, hz⟩ := I2.list hq
      have hlt : a < s2.heap.objs.size := by
        obtain ⟨o, e, _⟩ := pl.isList
        exact Heap.lt_size e
      rw [hks]
      refine enum_begins_start (begins_list a its.toArray) pl.isList (by omega) (by omega) fun h1 he hit hsz k => wpAny_pyIter_enum he ?_
      have I3 : Inv X pins σ H2 { s2 with heap := h1 } := I2.kept (t' := s2.toks) k
      refine ⟨s2.heap.objs.size + 1, [s2.heap.objs.size + 1, s2.heap.objs.size], _, _, H2, rfl, I3, turn_count a (s2.heap.objs.size + 1) s2.heap.objs.size c, ⟨⟨⟨.none, by simpa using he⟩, ⟨_, hit, rfl, rfl⟩⟩, Nat.succ_ne_self _, Nat.ne_of_lt hlt, Nat.ne_of_lt (Nat.lt_succ_of_lt hlt)⟩, fun b hb => ?_, q⟩
      have hle : s2.heap.objs.size ≤ b := by
        rcases List.mem_cons.mp hb with z | z
        · rw [z]; exact Nat.le_add_right _ _
        · rw [List.mem_singleton.mp z]; exact Nat.le_refl _
      exact I2.fpOk hle (I2.hok.fresh hle)
/-- .. a walk: pairs of the count and the item -/
theorem walk_count {K : PySem.W.Frag} {a : Addr} {xs : List V} {c : Int} : Walk (Itn K a c) xs.length (fun H => SqL K H a xs) (YPair (fun i => some (.int (c + (i : Int)))) (fun i => xs[i]?)) where
  goes _ _ hi h := ⟨xs, _, h, List.getElem?_eq_getElem hi⟩
  stops _ h := ⟨xs, h, rfl⟩
  yields := by
    rintro i H v H' _ h ⟨p, x, rfl, hp, rfl, f⟩
    exact ⟨p, _, x, rfl, hp, rfl, rfl, f xs h⟩
end Ov


namespace Ov
open PySem PySem.Spec PyProof.Rows L2
open Evl (pss_cut tCut Ex Ev EvT EvL EvA EvU)
/-! ### the lines of a plan's text read -/
section
variable {K : PySem.W.Frag} {CR : Addr} {H : Hp}
/-- [read_rule(line, at) for at, line in enumerate(lines, start=1)] over good rules' texts -/
theorem rd_lines {a : Addr} {rs : List RuleD} {Q : VK} {a0 a1 a2 a4 a5 a6 a7 a8 : Option V} (hx : SqL K H a (rs.map fun r => V.str (ruleText r))) (hz : rs.length ≤ 1000) (g : ∀ r ∈ rs, r.Good)
    (q : ∀ L H' ys, Ex H H' → H' L = some (.lst ys) → RulesAt K CR H' ys rs → Q (.ref L) H') :
    tLc (iCount K (tCons (tVar 3) tNil) (tCons (tC (.int 1)) tNil)) (gTup K 2 (gCons (gName 7) (gCons (gName 8) gNil))) tYes (tCall (spReadRuleG K CR) [] E0 (tCons (tVar 8) (tCons (tVar 7) tNil))) [7, 8]
      [a0, a1, a2, some (.ref a), a4, a5, a6, a7, a8] H Q := by
  refine ⟨_, rfl, a, _, 1, rfl, rfl, by decide, hx, fun L hL => ?_⟩
  refine lc_it (walk_count (c := 1)) (fun i H' => Ex H H' ∧ ∃ ys, H' L = some (.lst ys) ∧ RulesAt K CR H' ys (rs.take i)) ⟨Ex.new hL, [], upd_same, by rw [List.take_zero]; exact .nil⟩ (fun i H' _ p => Evl.ex_l p.1 hx) ?_ ?_
  · rintro i x H1 H2 hi ⟨e, ys, h3, h4⟩ ⟨p, n, v, rfl, hp, rfl, en, ev⟩
    obtain rfl := Option.some.inj en
    replace ev : (rs.map fun r => V.str (ruleText r))[i]? = some v := ev
    rw [List.getElem?_map] at ev
    obtain ⟨r, hr, rfl⟩ := Option.map_eq_some_iff.mp ev
    refine ⟨p, _, rfl, Evl.st_of upd_same, rfl, _, _, rfl, _, _, rfl, rfl, rfl, ?_⟩
    simp only [tYes, eq_self, if_true]
    refine ⟨_, rfl, _, rfl, r, _, rfl, g r (List.mem_of_getElem? hr), fun o H4 e4 ro => ?_⟩
    have e14 := (Ex.new hp).trans e4
    have h3' := e14 _ _ h3
    have hn : ys.length < sizeLine := by
      rw [paired_len h4, List.length_take]
      have := (List.getElem?_eq_some_iff.mp hr).1
      exact Nat.lt_of_le_of_lt (Nat.min_le_left _ _) (Nat.lt_of_lt_of_le this (Nat.le_trans hz (by decide)))
    refine ⟨ys, h3', hn, Ex.mut (e.trans e14) hL, _, upd_same, ?_⟩
    rw [List.take_add_one, hr]
    exact paired_snoc ((h4.ex e14).updL h3') ⟨o, rfl, ro.updL h3'⟩
  · rintro H' ⟨e, ys, h3, h4⟩
    rw [List.length_map, List.take_length] at h4
    exact q L H' ys e h3 h4
end
end Ov


namespace Ov
open PySem PySem.Spec PyProof.Rows L2
open Evl (pss_cut tCut Ex Ev EvT EvL EvA EvU)
/-! ### Plan.read of a plan's text -/
theorem scPlanRead : FnScope ["cls", "text", "first", "lines", "word", "raises", "rules", "at", "line"] ["cls", "text"] (defScope sPlanRead) := ⟨rfl, rfl, rfl, by decide +kernel, rfl, by decide +kernel, by decide +kernel⟩
def spAreRaisesG (K : PySem.W.Frag) : Sp := fun vs H Q _ => ∃ (a : Addr) (ks : List Str), vs = [.ref a] ∧ (SqL K H a (ks.map V.str) ∨ SqT K H a (ks.map V.str)) ∧ ks.length ≤ 4 ∧ ks.Nodup ∧ (∀ k ∈ ks, k ∈ lettersL) ∧ ∀ H', Ex H H' → Q (.bl true) H'
/-- so ks ys: ys is ks sorted -/
def spPlanInitG (K : PySem.W.Frag) (CR CP : Addr) (so : List Str → List Str → Prop) : Sp := fun vs H Q _ => ∃ (p a b dx : Addr) (ks : List Str) (xs : List V) (rs : List RuleD), vs = [.ref p, .ref a, .ref b] ∧ H p = some (.ins CP dx []) ∧ (SqL K H a (ks.map V.str) ∨ SqT K H a (ks.map V.str)) ∧ ks.length ≤ 4 ∧ ks.Nodup ∧ (∀ k ∈ ks, k ∈ lettersL) ∧
  (SqL K H b xs ∨ SqT K H b xs) ∧ RulesAt K CR H xs rs ∧ xs.length ≤ 1000 ∧ ∀ H' ys, so ks ys → (∀ c o, c ≠ p → H c = some o → H' c = some o) → PlanObj K CP H' p ys xs → Q .non H'
def spPlanReadG (K : PySem.W.Frag) (CR CP : Addr) (so : List Str → List Str → Prop) : Sp := fun vs H Q _ => ∃ (text first : Str) (ks : List Str) (rs : List RuleD), vs = [.ref CP, .str text] ∧ Txt.split text "\n" = first :: rs.map ruleText ∧ Txt.split first " " = ("raise" : Str) :: ks ∧ text.length ≤ 900000 ∧ first.length ≤ 900000 ∧ rs.length ≤ 1000 ∧ (∀ r ∈ rs, r.Good) ∧ ks.length ≤ 4 ∧ ks.Nodup ∧ (∀ k ∈ ks, k ∈ lettersL) ∧
  ∀ p H' ys xs, so ks ys → Ex H H' → PlanObj K CP H' p ys xs → RulesAt K CR H' xs rs → Q (.ref p) H'
theorem q_put {te : TE} {g : TG} {tz : TS} {D : Ends} {σ : L2.St} {H : Hp} (h : te σ H fun x H1 => g x σ H1 (tz D)) : tSeq (tAsg te g) tz D σ H := h
/-- first, *rest = text.split(sep) -/
theorem q_first {K : PySem.W.Frag} {σ : L2.St} {H : Hp} {D : Ends} {tz : TS} {n i j : Nat} {a b y : Str} {ys : List Str} (e : Txt.split a b = y :: ys) (h : σ[n]? = some (some (.str a))) (hb : (b.length == 0) = false) (hz : a.length ≤ 900000) (hy : ys.length ≤ 16000)
    (c : ∀ p H1, Ex H H1 → H1 p = some (.lst (ys.map V.str)) → tz D ((σ.set i (some (.str y))).set j (some (.ref p))) H1) :
    tSeq (tAsg (tM1 (fun x xs H Q => ∃ a b, x = .str a ∧ xs = [.str b] ∧ (b.length == 0) = false ∧ a.length + 2 ≤ sizeLine ∧ rNewStrs (Txt.split a b) H Q) (tVar n) (tC (.str b))) (gFirst K (gCons (gName i) (gCons (gName j) gNil)))) tz D σ H := by
  refine ⟨_, h, ⟨_, rfl⟩, a, b, rfl, rfl, hb, by rw [sizeLine_eq]; omega, fun p np => ⟨p, .str y, ys.map V.str, rfl, .inl (.inl ?_), by rw [List.length_map]; exact hy, fun p2 np2 => ⟨_, _, rfl, _, _, rfl, rfl, ?_⟩⟩⟩
  · rw [e]
    exact upd_same
  · exact c p2 _ ((Ex.new np).trans (Ex.new np2)) upd_same
section
variable {P : Program} {w : World} {K : PySem.W.Frag} {mg : Str → Option Value} {base : Heap} {CR CP : Addr} {so : List Str → List Str → Prop}
theorem ok_plan_read {f fI fAR fRR : Addr} {fd fdI fdAR fdRR : FuncData} (F : Fun K "read" "Plan.read" sPlanRead f fd) (n_enumerate : mg "enumerate" = none) (D_are_raises : Df K mg "are_raises" sAreRaises ["value"] fAR fdAR) (D_read_rule : Df K mg "read_rule" sReadRule ["line", "at"] fRR fdRR)
    (G_are_raises : FnOk P w K mg base CX0 2 fAR fdAR ["value"] (spAreRaisesG K)) (G_read_rule : FnOk P w K mg base CX0 5 fRR fdRR ["line", "at"] (spReadRuleG K CR)) (mkP : Mk K CP fI) (G_init : FnOk P w K mg base CX0 3 fI fdI ["self", "raises", "rules"] (spPlanInitG K CR CP so)) (b_init : Binds K fdI ["self", "raises", "rules"] []) :
    FnOk P w K mg base CX0 6 f fd ["cls", "text"] (spPlanReadG K CR CP so) := by
  refine F.ok scPlanRead (fun vs H Q E h => ?_) (fun cdv A outer s H vs Q E hr h => ?_)
  · obtain ⟨text, first, ks, rs, rfl, _⟩ := h
    rfl
  · obtain ⟨text, first, ks, rs, rfl, h1, h2, l1, l2, l3, g, k1, k2, k3, q⟩ := h
    refine ⟨_, pss_cons (ps_asg (pe_split (pv 1) pe_str) (pg_first (by rfl) (pgs_cons (pg_name (i := 2) scPlanRead.nd rfl (Or.inl rfl)) (pgs_star (pg_name (i := 3) scPlanRead.nd rfl (Or.inl rfl))))))
      (pss_cons (ps_asg (pe_split (pv 2) pe_str) (pg_first (by rfl) (pgs_cons (pg_name (i := 4) scPlanRead.nd rfl (Or.inl rfl)) (pgs_star (pg_name (i := 5) scPlanRead.nd rfl (Or.inl rfl))))))
      (pss_cons (ps_if (PW.pt (pw_or (pt_cmpR op_ne (pv 4) pe_str (nomark _)) (pw_or1 (pt_not (pt_val (pe_call G_are_raises (hr.mono (by decide)) rfl D_are_raises.g D_are_raises.F.kp D_are_raises.b .nil pass0 (pa_cons (pv 5) pa_nil))))))) (pss_one ps_never) pss_nil)
      (pss_cons (ps_setLc (i := 6) (own := [("at", 7), ("line", 8)]) (tt := tYes) rfl scPlanRead.nd rfl rfl (sw_true rfl rfl rfl (by decide +kernel)) (pi_count (by rfl) n_enumerate (pa_cons (pv 3) pa_nil) (pk_cons pe_int pk_nil)) (blkOk_by (own := [("at", 7), ("line", 8)]) (N := ["cls", "text", "first", "lines", "word", "raises", "rules", "at", "line"]) (sc := defScope sPlanRead) (by decide +kernel)) (g := gTup K 2 (gCons (gName 7) (gCons (gName 8) gNil))) (fun _ _ _ _ _ => (pg_tup (by rfl) (pgs_cons (pg_name (i := 7) scPlanRead.nd rfl (Or.inl rfl)) (pgs_cons (pg_name (i := 8) scPlanRead.nd rfl (Or.inl rfl)) pgs_nil)))) (fun _ _ _ _ _ => pts_nil) (fun _ _ _ _ _ => (pe_call (E := E0) G_read_rule (hr.mono (by decide)) rfl D_read_rule.g D_read_rule.F.kp D_read_rule.b .nil pass0 (pa_cons (pv 8) (pa_cons (pv 7) pa_nil)))))
      (pss_one (ps_ret (pe_makeV (sp := spPlanInitG K CR CP so) (E := E0) 0 mkP G_init (hr.mono (by decide)) b_init pass0 (pa_cons (pv 5) (pa_cons (pv 6) pa_nil)))))))), ?_⟩
    refine q_first h1 rfl (by decide +kernel) l1 (by rw [List.length_map]; omega) fun pL H1 e1 s1 => ?_
    refine q_first h2 rfl (by decide +kernel) l2 (by omega) fun pR H2 e2 s2 => ?_
    refine Evl.q_when (b := false) (Evl.et_is (Evl.et_or (Evl.et_test (Evl.ev_op (Evl.ev_var rfl) Evl.ev_c (Evl.rv_ne rfl))) (fun _ => Evl.et_not (Evl.et_B (ev_call (v := .bl true) (Evl.ea_cons (Evl.ev_var rfl) Evl.ea_nil) fun H3 e3 Q1 q1 => ⟨pR, ks, rfl, .inl (Evl.sq_of (e3 _ _ s2)), k1, k2, k3, fun H4 e4 => q1 H4 e4⟩)))) (by decide +kernel)) (fun z => nomatch z) (fun _ H3 e3 => ?_)
    rw [List.map_map] at s1
    refine q_put (rd_lines (Evl.sq_of (e3 _ _ (e2 _ _ s1))) l3 g fun pX H4 xs e4 s4 R4 => ?_)
    refine ⟨rfl, _, rfl, _, rfl, fun x dx nx nd ne => ?_⟩
    have e5 : Ex H4 (upd (upd H4 dx (.own x)) x (.ins CP dx [])) := (Ex.new nd).trans (Ex.new (by rw [upd_ne ne.symm]; exact nx))
    have e45 := e4.trans e5
    refine ⟨x, pR, pX, dx, ks, xs, rs, rfl, upd_same, .inl (Evl.sq_of (e45 _ _ (e3 _ _ s2))), k1, k2, k3, .inl (Evl.sq_of (e5 _ _ s4)), R4.ex e5, by rw [paired_len R4]; exact l3, fun H5 ys sy k5 po => ⟨rfl, ?_⟩⟩
    have e6 : Ex H4 H5 := fun c o hc => k5 c o (ne_of_none hc nx) (e5 _ _ hc)
    have R5 : RulesAt K CR H5 xs rs := R4.ex e6
    exact q x H5 ys xs sy (((e1.trans e2).trans e3).trans (e4.trans e6)) po R5
end
end Ov


namespace Ov
open PySem L2 TL
/-! ### a plan's text is read back -/
theorem joined_no {c : Nat} {sep : Str} (hs : c ∉ tl sep) : ∀ {l : List Str}, (∀ x ∈ l, c ∉ tl x) → c ∉ tl (Str.join sep l)
  | [], _ => List.not_mem_nil
  | [x], h => h x List.mem_cons_self
  | x :: y :: r, h => by
    show c ∉ tl (x ++ sep ++ Str.join sep (y :: r))
    rw [tl_append, tl_append, List.mem_append, List.mem_append]
    rintro ((z | z) | z)
    · exact h x List.mem_cons_self z
    · exact hs z
    · exact joined_no hs (fun w hw => h w (List.mem_cons_of_mem _ hw)) z
theorem line_rule {r : RuleD} (g : r.Good) : 10 ∉ tl (ruleText r) := by
  have k : ∀ k ∈ kindsAll, 10 ∉ tl (("on " : Str) ++ k) := by decide +kernel
  have t : ∀ t ∈ allTests, 10 ∉ tl t := by decide +kernel
  have d : ∀ t ∈ allDeeds, 10 ∉ tl t := by decide +kernel
  unfold ruleText
  rw [tl_append, tl_append, List.mem_append, List.mem_append]
  rintro ((z | z) | z)
  · exact k _ g.k z
  · unfold tText at z
    split at z
    · exact absurd z (by decide +kernel)
    · rw [tl_append, tl_if] at z
      rcases List.mem_append.mp z with z | z
      · exact absurd z (by decide)
      · exact joined_no (by rw [tl_and]; decide) (fun x hx => t x (tests_all (g.ts x hx))) z
  · unfold dText at z
    split at z
    · exact absurd z (by decide +kernel)
    · rw [tl_append, tl_do] at z
      rcases List.mem_append.mp z with z | z
      · exact absurd z (by decide)
      · exact joined_no (by rw [tl_then]; decide) (fun x hx => d x (deeds_all (g.ds x hx))) z
def firstLine (ks : List Str) : Str := Str.join " " (("raise" : Str) :: ks)
def planText (ks : List Str) (rs : List RuleD) : Str := Str.join "\n" (firstLine ks :: rs.map ruleText)
theorem word_no {c : Nat} (hc : c = 10 ∨ c = 32) {ks : List Str} (h : ∀ k ∈ ks, k ∈ lettersL) : ∀ k ∈ ("raise" : Str) :: ks, c ∉ tl k := by
  have a : ∀ k ∈ ("raise" : Str) :: lettersL, 10 ∉ tl k ∧ 32 ∉ tl k := by decide +kernel
  intro k hk
  have hk2 : k ∈ ("raise" : Str) :: lettersL := by
    rcases List.mem_cons.mp hk with z | z
    · exact List.mem_cons.mpr (.inl z)
    · exact List.mem_cons_of_mem _ (h k z)
  rcases hc with rfl | rfl
  · exact (a k hk2).1
  · exact (a k hk2).2
theorem first_read {ks : List Str} (h : ∀ k ∈ ks, k ∈ lettersL) : Txt.split (firstLine ks) " " = ("raise" : Str) :: ks := by
  have e : tl " " = 32 :: [] := by decide +kernel
  unfold firstLine
  rw [← join_eq]
  exact split_join e (by decide +kernel) (by simp) (word_no (.inr rfl) h)
theorem lines_read {ks : List Str} {rs : List RuleD} (h : ∀ k ∈ ks, k ∈ lettersL) (g : ∀ r ∈ rs, r.Good) : Txt.split (planText ks rs) "\n" = firstLine ks :: rs.map ruleText := by
  have e : tl "\n" = 10 :: [] := by decide +kernel
  have e1 : tl " " = 32 :: [] := by decide +kernel
  unfold planText
  rw [← join_eq]
  refine split_join e (by decide +kernel) (by simp) fun p hp => ?_
  rcases List.mem_cons.mp hp with rfl | hp
  · exact joined_no (by rw [e1]; decide) (word_no (.inl rfl) h)
  · obtain ⟨r, hr, rfl⟩ := List.mem_map.mp hp
    exact line_rule (g r hr)
end Ov


namespace Ov
open PySem PySem.Spec PyProof.Rows L2
open Evl (pss_cut tCut Ex Ev EvT EvL EvA EvU)
/-! ### Plan's __init__, of any kinds without twins -/
def sortedOf (ks ys : List Str) : Prop := ys.Perm ks ∧ sortedS ys = true
section
variable {P : Program} {w : World} {K : PySem.W.Frag} {mg : Str → Option Value} {base : Heap} {a_LETTERS a_LETTER_TESTS a_LETTER_DEEDS a_ANSWER_TESTS a_ANSWER_DEEDS CR CP : Addr} {tA tN : Tok}
theorem ok_plan_initG {f fSeq fAR fAU : Addr} {fd fdSeq fdAR fdAU : FuncData} {dvs : List V} {kws : List (Str × V)} (F : FunD K "__init__" "Plan.__init__" (defArgs sPlanInit) (defBody sPlanInit) (defScope sPlanInit) dvs kws f fd) (T : TxR K mg a_LETTERS a_LETTER_TESTS a_LETTER_DEEDS a_ANSWER_TESTS a_ANSWER_DEEDS CR tA tN) (TP : TxP K mg CP)
    (D_is_sequence : Df K mg "is_sequence" sIsSequence ["value"] fSeq fdSeq) (D_are_raises : Df K mg "are_raises" sAreRaises ["value"] fAR fdAR) (G_are_raises : FnOk P w K mg base CX0 2 fAR fdAR ["value"] (spAreRaisesG K)) (D_are_rules : Df K mg "are_rules" sAreRules ["value"] fAU fdAU) :
    FnOk P w K mg base CX0 3 f fd ["self", "raises", "rules"] (spPlanInitG K CR CP sortedOf) := by
  have G_are_rules : FnOk P w K mg base CX0 2 fAU fdAU ["value"] (spAreRules K CR) := ok_are_rules D_are_rules.F T D_is_sequence
  refine FunD_ok0 F scPlanInit (fun vs H Q E h => ?_) (fun cdv A outer s H vs Q E hr h => ?_)
  · obtain ⟨p, a, b, dx, ks, xs, rs, rfl, _⟩ := h
    rfl
  · obtain ⟨p, a, b, dx, ks, xs, rs, rfl, hp, hA, hl, hd, hk, hB, hR, hx, q⟩ := h
    refine ⟨_, pss_cons (ps_if (pt_not (pt_val (pe_call G_are_raises (hr.mono (by decide)) rfl D_are_raises.g D_are_raises.F.kp D_are_raises.b .nil pass0 (pa_cons (pv 1) pa_nil)))) (pss_one ps_never) pss_nil)
      (pss_cons (ps_if (pt_not (pt_val (pe_call G_are_rules (hr.mono (by decide)) rfl D_are_rules.g D_are_rules.F.kp D_are_rules.b .nil pass0 (pa_cons (pv 2) pa_nil)))) (pss_one ps_never) pss_nil)
      (pss_cons (ps_fld (pv 0) (pe_callTy call_tuple_any (by rfl) T.n_tuple (by decide +kernel) (pa_cons (pe_callB cr_sortedB (by rfl) TP.n_sorted (by decide +kernel) (pa_cons (pv 1) pa_nil)) pa_nil)) rfl)
      (pss_one (ps_fld (pv 0) (pe_callTy call_tuple_any (by rfl) T.n_tuple (by decide +kernel) (pa_cons (pv 2) pa_nil)) rfl)))), ?_⟩
    refine Evl.q_when (b := false) (Evl.et_is (Evl.et_not (Evl.et_B (ev_call (v := .bl true) (Evl.ea_cons (Evl.ev_var rfl) Evl.ea_nil) fun H1 e1 Q1 q1 => ⟨a, ks, rfl, exB e1 hA, hl, hd, hk, fun H2 e2 => q1 H2 e2⟩))) rfl) (fun z => nomatch z) (fun _ H1 e1 => ?_)
    refine Evl.q_when (b := false) (Evl.et_is (Evl.et_not (Evl.et_B (ev_call (v := .bl true) (Evl.ea_cons (Evl.ev_var rfl) Evl.ea_nil) fun H2 e2 Q1 q1 => ⟨b, xs, rs, rfl, exB (e1.trans e2) hB, RulesAt.ex (e1.trans e2) hR, hx, fun H3 e3 => q1 H3 e3⟩))) rfl) (fun z => nomatch z) (fun _ H2 e2 => ?_)
    have e12 := e1.trans e2
    have ntp : ∀ {H' : Hp} {a : Addr} {xs : List V} {fs : List (Str × V)}, H' p = some (.ins CP dx fs) → SqT K H' a xs → ∀ o, SqT K (upd H' p o) a xs := by
      intro H' a xs fs hp' h o
      rcases h with (h | ⟨u, h⟩) | h
      · exact .inl (.inl (by rw [upd_ne (ne_of h hp' (fun z => nomatch z))]; exact h))
      · exact .inl (.inr ⟨u, by rw [upd_ne (ne_of h hp' (fun z => nomatch z))]; exact h⟩)
      · exact .inr h
    have ntl : ∀ {H' : Hp} {a : Addr} {xs : List V} {fs : List (Str × V)}, H' p = some (.ins CP dx fs) → SqL K H' a xs → ∀ o, SqL K (upd H' p o) a xs := by
      intro H' a xs fs hp' h o
      rcases h with (h | ⟨u, h⟩) | h
      · exact .inl (.inl (by rw [upd_ne (ne_of h hp' (fun z => nomatch z))]; exact h))
      · exact .inl (.inr ⟨u, by rw [upd_ne (ne_of h hp' (fun z => nomatch z))]; exact h⟩)
      · exact .inr h
    refine ⟨_, rfl, a, ks, rfl, exB e12 hA, by omega, fun ys l hperm hsort nl => ?_⟩
    refine ⟨l, _, rfl, .inl (SqL.of upd_same), fun t2 H3 e3 s3 => ?_⟩
    have e13 : Ex H H3 := (e12.trans (Ex.new nl)).trans e3
    have hp3 := e13 _ _ hp
    refine ⟨_, rfl, p, CP, dx, _, rfl, hp3, TP.cl, TP.nR, (by show 0 < 1000; decide), ?_⟩
    have hB3 := (exB e13 hB).imp (fun h => ntl hp3 h (.ins CP dx (putF "raises" (.ref t2) []))) (fun h => ntp hp3 h (.ins CP dx (putF "raises" (.ref t2) [])))
    have s3' := ntp hp3 s3 (.ins CP dx (putF "raises" (.ref t2) []))
    refine ⟨_, rfl, b, _, rfl, hB3, fun d2 H4 e4 s4 => ?_⟩
    have hp4 := e4 _ _ upd_same
    refine ⟨_, rfl, p, CP, dx, _, rfl, hp4, TP.cl, TP.nU, (by show 1 < 1000; decide), ?_⟩
    refine q _ ys ⟨hperm, hsort⟩ (fun c o hc hh => ?_) ⟨dx, t2, d2, upd_same, ntp hp4 (Evl.ex_t e4 s3') _, ntp hp4 s4 _⟩
    rw [upd_ne hc]
    refine e4 _ _ ?_
    rw [upd_ne hc]
    exact e13 _ _ hh
end
end Ov


namespace Ov
open PySem PySem.Spec PyProof.Rows L2
open Evl (pss_cut tCut Ex Ev EvT EvL EvA EvU)
/-! ### kinds that raise, up to four of them; own + and len; plans compared -/
section
variable {X : Cx} {CX : CXT} {k : Nat} {f C : Addr} {fd : FuncData} {ps : List Str} {sp : Sp} {E : XK}
/-- x + y of two instances of the class at C, by its own __add__ -/
def rAddI (C : Addr) (sp : Sp) (E : XK) : R2 := fun x y H Q => ∃ a b dx dy fs gs, x = .ref a ∧ y = .ref b ∧ H a = some (.ins C dx fs) ∧ H b = some (.ins C dy gs) ∧ sp [x, y] H (fun v H' => ∃ p, v = .ref p ∧ Q (.ref p) H') E
theorem op_addI (F : FnOk X.prog X.w X.K X.mg X.base CX k f fd ps sp) (hr : Room k X.A) (first : PySem.W.selfFirst X.K C = true) (hs : PySem.W.findIn X.K (.ref C) (PySem.dunder "add") = some (some (.ref f))) (hf : PySem.W.isFn X.K (.ref f) = true) (hb : Binds X.K fd ps []) (hx : Passes CX X E) :
    OpR X (binaryOp .Add) (rAddI C sp E) := by
  rintro pins s σ H _ _ v u Q I rx ry ⟨a, b, dx, dy, fs, gs, rfl, rfl, ha, hb2, hq⟩
  cases rx
  cases ry
  obtain ⟨_, J1, _⟩ := ins_get I.hok ha
  obtain ⟨_, J2, _⟩ := ins_get I.hok hb2
  obtain ⟨_, J1, _⟩ := J1.look
  obtain ⟨_, J2, _⟩ := J2.look
  obtain ⟨m, hF⟩ := I.fr
  refine PySem.W.binop_K (op := .Add) hF I.ok.mod.kin J1 J2.type first hs hf (wpAny_mono (run_sub F (sub0 hr) hb hx I (vs := [.ref a, .ref b]) (us := [.ref a, .ref b]) (.cons rfl (.cons rfl .nil)) hq) (fun v s2 hv => ?_) fun _ _ z => z)
  obtain ⟨z, H2, I2, rz, p, rfl, q⟩ := hv
  cases rz
  exact ⟨.ref p, H2, I2, rfl, q⟩
/-- len(x) by the class's own __len__ -/
def rLenI (C : Addr) (sp : Sp) (E : XK) : List V → Hp → VK → Prop := fun xs H Q => ∃ a dx fs, xs = [.ref a] ∧ H a = some (.ins C dx fs) ∧ sp [.ref a] H (fun v H' => ∃ n : Nat, v = .int (n : Int) ∧ n < 1000000 ∧ Q (.int (n : Int)) H') E
theorem call_lenI (F : FnOk X.prog X.w X.K X.mg X.base CX k f fd ps sp) (hr : Room (k + 1) X.A) (hs : PySem.W.findIn X.K (.ref C) "__len__" = some (some (.ref f))) (hf : PySem.W.isFn X.K (.ref f) = true) (hb : Binds X.K fd ps []) (hx : Passes CX X E) :
    CallR X (.builtin "len") (rLenI C sp E) := by
  rintro pins s σ H _ us Q I r ⟨a, dx, fs, rfl, ha, hq⟩
  obtain ⟨u, rfl, rx⟩ := vals1 r
  cases rx
  obtain ⟨_, J, _⟩ := ins_get I.hok ha
  obtain ⟨_, J, _⟩ := J.look
  obtain ⟨m, hF⟩ := I.fr
  refine PySem.W.len_K hF I.ok.mod.kin J hs hf (wpAny_mono (run_sub F (sub1 hr) hb hx I (vs := [.ref a]) (us := [.ref a]) (.cons rfl .nil) hq) (fun v s2 hv => ?_) fun _ _ z => z)
  obtain ⟨z, H2, I2, rz, n, rfl, hn, q⟩ := hv
  obtain ⟨t, rfl⟩ := rz
  exact ⟨⟨by omega, by omega⟩, .int n, H2, I2.tok _, ⟨_, rfl⟩, q⟩
end
section
variable {P : Program} {w : World} {K : PySem.W.Frag} {mg : Str → Option Value} {base : Heap} {a_LETTERS a_LETTER_TESTS a_LETTER_DEEDS a_ANSWER_TESTS a_ANSWER_DEEDS CR CP : Addr} {tA tN : Tok}
theorem ok_are_raisesG {f fSeq : Addr} {fd fdSeq : FuncData} (F : Fun K "are_raises" "are_raises" sAreRaises f fd) (T : TxR K mg a_LETTERS a_LETTER_TESTS a_LETTER_DEEDS a_ANSWER_TESTS a_ANSWER_DEEDS CR tA tN) (n_set : mg "set" = none) (D_is_sequence : Df K mg "is_sequence" sIsSequence ["value"] fSeq fdSeq) :
    FnOk P w K mg base CX0 2 f fd ["value"] (spAreRaisesG K) := by
  have G_is_sequence : FnOk P w K mg base CX0 1 fSeq fdSeq ["value"] (spIsSeq K) := ok_is_sequence D_is_sequence.F T
  refine F.ok scAreRaises (fun vs H Q E h => ?_) (fun cdv A outer s H vs Q E hr h => ?_)
  · obtain ⟨a, ks, rfl, _⟩ := h
    rfl
  · obtain ⟨a, ks, rfl, hS, hl, hd, hk, q⟩ := h
    refine ⟨_, pss_cons (ps_if (PW.pt (pw_or (pt_not (pt_val (pe_call G_is_sequence (hr.mono (by decide)) rfl D_is_sequence.g D_is_sequence.F.kp D_is_sequence.b .nil pass0 (pa_cons (pv 0) pa_nil)))) (pw_or1 (pt_not (pt_val (pe_callB (cr_all rfl) (by rfl) T.n_all (by decide +kernel) (pa_cons (pe_lc (own := [("kind", 1)]) (g := gName 1) (tt := tYes) rfl scAreRaises.nd (pi_both (pv 0)) (blkOk_by (own := [("kind", 1)]) (N := ["value", "kind"]) (sc := defScope sAreRaises) (by decide +kernel)) (fun _ _ _ _ _ => (pg_name (i := 1) scAreRaises.nd rfl (Or.inl rfl))) (fun _ _ _ _ _ => pts_nil) (fun _ _ _ _ _ => (pe_cmpR (r := rIn K false) op_in_seq (pv 1) (pe_glob (v := .ref a_LETTERS) rfl T.g_LETTERS rfl) (by rfl)))) pa_nil))))))) (pss_one (ps_ret pe_bl)) pss_nil)
      (pss_one (ps_ret (pe_cmpR op_eq (pe_lenSetG rfl rfl T.n_len rfl n_set (pv 0)) (pe_callB call_len_seq (by rfl) T.n_len (by decide +kernel) (pa_cons (pv 0) pa_nil)) (nomark _)))), ?_⟩
    have lT : (ks.map V.str).length ≤ 40000 := by rw [List.length_map]; omega
    refine Evl.q_when (b := false) (Evl.et_is (Evl.et_or (Evl.et_not (Evl.et_B (ev_call (v := .bl true) (Evl.ea_cons (Evl.ev_var rfl) Evl.ea_nil) fun H1 e1 Q1 q1 => ⟨a, _, rfl, exB e1 hS, fun H2 e2 => q1 H2 e2⟩)))
      (fun _ => Evl.et_not (Evl.et_B (ev_all (bs := List.replicate (ks.map V.str).length true) ?_)))) (by rw [all_true]; rfl)) (fun z => nomatch z) (fun _ H1 e1 => ?_)
    · rw [← range_true]
      refine el_lcB (fun _ => .bl true) (Evl.ev_var rfl) hS lT (fun x => rfl) (fun i x H2 e2 hi => ?_)
      obtain ⟨y, rfl, hy⟩ := strs_at hi
      have hy2 : y ∈ lettersL := hk y (List.mem_of_getElem? hy)
      refine Evl.ev_is (Evl.ev_op (Evl.ev_var rfl) Evl.ev_c (Evl.rv_isT (T.s_LETTERS _) rfl (flat_strs _))) ?_
      rw [inV_strs]
      exact congrArg V.bl (decide_eq_true hy2)
    · refine ⟨_, rfl, a, ks, rfl, exB e1 hS, hd, by omega, _, rfl, a, _, rfl, exB e1 hS, rfl, ?_⟩
      rw [List.length_map]
      exact (decide_eq_true (rfl : V.int (ks.length : Int) = V.int (ks.length : Int))) ▸ q H1 e1
/-! #### == of plans that are alike -/
def sameAt (K : PySem.W.Frag) (CR : Addr) : Addr → Addr → Hp → Prop := fun a b H => ∃ r : RuleD, r.Good ∧ RuleObj K CR H a r ∧ RuleObj K CR H b r
theorem same_rules {H : Hp} : ∀ {xs ys : List V} {rs : List RuleD}, RulesAt K CR H xs rs → RulesAt K CR H ys rs → (∀ r ∈ rs, r.Good) → Prs (DIns CR (sameAt K CR)) xs ys H
  | _, _, _, .nil, .nil, _ => Prs.nil
  | _, _, _, .cons ⟨p, e1, h1⟩ t1, .cons ⟨q, e2, h2⟩ t2, g => by
    obtain ⟨dx, _, _, i1, _⟩ := id h1
    obtain ⟨dy, _, _, i2, _⟩ := id h2
    exact Prs.cons ⟨p, q, dx, dy, _, _, e1, e2, i1, i2, _, g _ List.mem_cons_self, h1, h2⟩ (same_rules t1 t2 fun r hr => g r (List.mem_cons_of_mem _ hr))
theorem same_mon {a b : Addr} {H H' : Hp} (e : Ext H H') (h : sameAt K CR a b H) : sameAt K CR a b H' := by
  obtain ⟨r, g, h1, h2⟩ := h
  exact ⟨r, g, h1.ex e, h2.ex e⟩
theorem scPlanEq : FnScope ["self", "other"] ["self", "other"] (defScope sPlanEq) := ⟨rfl, rfl, rfl, by decide +kernel, rfl, by decide +kernel, by decide +kernel⟩
def spPlanEq (K : PySem.W.Frag) (CR CP : Addr) : Sp := fun vs H Q _ => ∃ (p q : Addr) (ks : List Str) (xs ys : List V) (rs : List RuleD), vs = [.ref p, .ref q] ∧ PlanObj K CP H p ks xs ∧ PlanObj K CP H q ks ys ∧ Plain ks ∧ RulesAt K CR H xs rs ∧ RulesAt K CR H ys rs ∧ (∀ r ∈ rs, r.Good) ∧ ∀ H', Ex H H' → Q (.bl true) H'
theorem ok_plan_eq {f fE : Addr} {fd fdE : FuncData} (F : Fun K "__eq__" "Plan.__eq__" sPlanEq f fd) (TP : TxP K mg CP) (tyP : ∀ {H : Hp} {p dx : Addr} {fs : List (Str × V)}, H p = some (.ins CP dx fs) → TyX K H (.ref p) (.ref CP)) (eqR : PySem.W.findIn K (.ref CR) "__eq__" = some (some (.ref fE))) (isE : PySem.W.isFn K (.ref fE) = true)
    (G_eq : FnOk P w K mg base CX0 1 fE fdE ["self", "other"] (spRuleEq K CR)) (b_eq : Binds K fdE ["self", "other"] []) : FnOk P w K mg base CX0 3 f fd ["self", "other"] (spPlanEq K CR CP) := by
  have G2 : FnOk P w K mg base CX0 1 fE fdE ["self", "other"] (spEq (sameAt K CR)) := G_eq.imp fun vs H Q E ⟨a, b, e, ⟨r, g, h1, h2⟩, q⟩ => ⟨a, b, r, r, e, h1, h2, g, g, fun H' e' => by
    have e2 : sameR r r = true := sameR_self r
    unfold sameR at e2
    exact e2 ▸ q H' e'⟩
  refine F.ok scPlanEq (fun vs H Q E h => ?_) (fun cdv A outer s H vs Q E hr h => ?_)
  · obtain ⟨p, q, ks, xs, ys, rs, rfl, _⟩ := h
    rfl
  · obtain ⟨p, q, ks, xs, ys, rs, rfl, hp, hq, pl, hx, hy, g, k⟩ := h
    obtain ⟨dx, a, b, h1, h2, h3⟩ := id hp
    obtain ⟨dy, c, d, h4, h5, h6⟩ := id hq
    refine ⟨_, pss_one (ps_ret (pe_and (pe_callB call_isi (by rfl) TP.n_isinstance (by decide +kernel) (pa_cons (pv 1) (pa_cons (pe_glob (v := .ref CP) rfl TP.g_Plan rfl) pa_nil))) (pe_and (pe_cmpR (op_eqD hr.units) (pe_fld (pv 0) rfl) (pe_fld (pv 1) rfl) (nomark _)) (pe_one (pe_cmpR (op_eqG (n := 2) (D := DTup K (DIns CR (sameAt K CR))) (rcG_tup (mon_ins (R := sameAt K CR) fun a b H H' e h => same_mon e h) (eqG_ins (R := sameAt K CR) (n := 1) (E := E0) G2 eqR isE b_eq pass0)) hr) (pe_fld (pv 0) rfl) (pe_fld (pv 1) rfl) (nomark _)))))), ?_⟩
    refine Evl.s_ret (v := .bl (true && (decide (ks = ks) && true))) ?_ fun H1 e1 => by
      rw [decide_eq_true rfl]
      exact k H1 e1
    refine Evl.ev_andV (ev_isi (Evl.ea_cons (Evl.ev_var rfl) (Evl.ea_cons Evl.ev_c Evl.ea_nil)) (.own CP) (fun H3 e3 => tyP (e3 _ _ h4)) (by simp [PySem.W.kitOne])) (fun _ => ?_)
    refine Evl.ev_andV (Evl.ev_op (ev_fld (Evl.ev_var rfl) h1 TP.cl TP.nR (pf_raises _ _)) (ev_fld (Evl.ev_var rfl) h4 TP.cl TP.nR (pf_raises _ _)) (rv_eqT pl pl h2 h5)) (fun _ => ?_)
    refine Evl.ev_op (ev_fld (Evl.ev_var rfl) h1 TP.cl TP.nU (pf_rules _ _)) (ev_fld (Evl.ev_var rfl) h4 TP.cl TP.nU (pf_rules _ _)) fun H1 e1 Q1 q1 => ?_
    exact ⟨⟨b, d, xs, ys, rfl, rfl, Evl.ex_t e1 h3, Evl.ex_t e1 h6, same_rules (hx.ex e1) (hy.ex e1) g⟩, fun H2 e2 => q1 H2 e2⟩
/-! #### len, raising, without, + -/
theorem scPlanLen : FnScope ["self"] ["self"] (defScope sPlanLen) := ⟨rfl, rfl, rfl, by decide +kernel, rfl, by decide +kernel, by decide +kernel⟩
def spPlanLen (K : PySem.W.Frag) (CP : Addr) : Sp := fun vs H Q _ => ∃ (p : Addr) (ks : List Str) (xs : List V), vs = [.ref p] ∧ PlanObj K CP H p ks xs ∧ Q (.int (xs.length : Int)) H
theorem ok_plan_len {f : Addr} {fd : FuncData} (F : Fun K "__len__" "Plan.__len__" sPlanLen f fd) (TP : TxP K mg CP) : FnOk P w K mg base CX0 1 f fd ["self"] (spPlanLen K CP) := by
  refine F.ok scPlanLen (fun vs H Q E h => ?_) (fun cdv A outer s H vs Q E hr h => ?_)
  · obtain ⟨p, ks, xs, rfl, _⟩ := h
    rfl
  · obtain ⟨p, ks, xs, rfl, ⟨dx, a, b, h1, h2, h3⟩, q⟩ := h
    refine ⟨_, pss_one (ps_ret (pe_callB call_len_seq (by rfl) TP.n_len (by decide +kernel) (pa_cons (pe_fld (pv 0) rfl) pa_nil))), ?_⟩
    exact ⟨_, rfl, p, CP, dx, _, _, rfl, h1, TP.cl, TP.nU, pf_rules _ _, b, xs, rfl, .inr h3, q⟩
/-- Plan(..) of kinds and rules as they are -/
abbrev MakesPlan (K : PySem.W.Frag) (CR CP : Addr) (H : Hp) (ks : List Str) (xs : List V) (rs : List RuleD) (Q : VK) : Prop := ∀ p H' ys, sortedOf ks ys → Ex H H' → PlanObj K CP H' p ys xs → RulesAt K CR H' xs rs → Q (.ref p) H'
def GoodKs (ks : List Str) : Prop := ks.length ≤ 4 ∧ ks.Nodup ∧ ∀ k ∈ ks, k ∈ lettersL
theorem run_mkP {H H0 : Hp} {a b : Addr} {ks : List Str} {xs : List V} {rs : List RuleD} {Q : VK} (hA : SqL K H a (ks.map V.str) ∨ SqT K H a (ks.map V.str)) (gk : GoodKs ks) (hB : SqL K H b xs ∨ SqT K H b xs) (hR : RulesAt K CR H xs rs) (hz : xs.length ≤ 1000) (e0 : Ex H0 H) (q : MakesPlan K CR CP H0 ks xs rs Q) :
    ∀ x dx : Addr, H x = none → H dx = none → dx ≠ x → spPlanInitG K CR CP sortedOf [.ref x, .ref a, .ref b] (upd (upd H dx (.own x)) x (.ins CP dx [])) (fun v H2 => v = .non ∧ Q (.ref x) H2) E0 := fun x dx nx nd ne => by
  have e1 : Ex H (upd (upd H dx (.own x)) x (.ins CP dx [])) := (Ex.new nd).trans (Ex.new (by rw [upd_ne ne.symm]; exact nx))
  refine ⟨x, a, b, dx, ks, xs, rs, rfl, upd_same, exB e1 hA, gk.1, gk.2.1, gk.2.2, exB e1 hB, hR.ex e1, hz, fun H5 ys so k5 po => ⟨rfl, ?_⟩⟩
  have e2 : Ex H H5 := fun c o hc => k5 c o (ne_of_none hc nx) (e1 _ _ hc)
  exact q x H5 ys so (e0.trans e2) po (hR.ex e2)
end
end Ov


namespace Ov
open PySem PySem.Spec PyProof.Rows L2
open Evl (pss_cut tCut Ex Ev EvT EvL EvA EvU)
/-! ### Plan: without, +, str -/
section
variable {K : PySem.W.Frag} {σ : L2.St} {H : Hp} {te tl tw : TE} {tt : TT}
theorem el_lcTf {a : Addr} {xs : List V} {j : Nat} {vs : List Nat} (f : Nat → Bool) (v : Nat → V) (h : Ev tl σ H (.ref a)) (hx : SqT K H a xs) (hz : xs.length ≤ 40000) (hw : ∀ x, wipe ((wipe σ vs).set j (some x)) vs = wipe σ vs)
    (ht : ∀ (i : Nat) (x : V) H1, Ex H H1 → xs[i]? = some x → EvT tt ((wipe σ vs).set j (some x)) H1 (f i)) (he : ∀ (i : Nat) (x : V) H1, Ex H H1 → xs[i]? = some x → Ev te ((wipe σ vs).set j (some x)) H1 (v i)) : EvL (tLc (iTup K tl) (gName j) tt te vs) σ H (Evl.given xs.length f v) := fun H0 e Q q => h H0 e _ fun H1 e1 => ⟨a, rfl, ⟨xs, Evl.ex_t (e.trans e1) hx⟩, fun L hL =>
  lc_tup (xs := xs) (Evl.Cw H1 f v L) ⟨hL, Ex.new hL, upd_same⟩ (fun i H' _ p => Evl.ex_t ((e.trans e1).trans p.2.1) hx)
    (fun i x H' hi p => ⟨hw x, Evl.cw_turn p (by have := (List.getElem?_eq_some_iff.mp hi).1; omega) (ht i x H1 (e.trans e1) hi) (fun _ => he i x H1 (e.trans e1) hi)⟩)
    (fun H' p => q L H' (Evl.fresh_back e1 p.1) (e1.trans p.2.1) p.2.2)⟩
theorem given_texts (L : List Str) (g : Str → Bool) (f : Nat → Bool) (v : Nat → V) (h : ∀ i x, L[i]? = some x → f i = g x ∧ v i = V.str x) : Evl.given L.length f v = (L.filter g).map V.str := by
  have e : L = (List.range L.length).map fun i => L[i]?.getD Str.empty := by
    refine List.ext_getElem? fun i => ?_
    rw [List.getElem?_map]
    by_cases hi : i < L.length
    · rw [List.getElem?_range hi, List.getElem?_eq_getElem hi]
      show _ = some (L[i]?.getD Str.empty)
      rw [List.getElem?_eq_getElem hi]
      rfl
    · rw [List.getElem?_eq_none (by omega), List.getElem?_eq_none (by rw [List.length_range]; omega)]
      rfl
  have e2 : L.filter g = ((List.range L.length).filter fun i => g (L[i]?.getD Str.empty)).map fun i => L[i]?.getD Str.empty := by
    have q := congrArg (List.filter g) e
    rw [List.filter_map] at q
    exact q
  rw [e2, List.map_map]
  unfold Evl.given
  have at_ : ∀ i ∈ List.range L.length, L[i]? = some (L[i]?.getD Str.empty) := fun i hi => by
    rw [List.getElem?_eq_getElem (List.mem_range.mp hi)]
    rfl
  rw [List.filter_congr fun i hi => (h i _ (at_ i hi)).1]
  exact List.map_congr_left fun i hi => (h i _ (at_ i (List.mem_filter.mp hi).1)).2
/-- t[lo:hi] of a tuple, the whole of it too -/
theorem ev_slA {to th : TO} {a : Addr} {xs : List V} {lo hi : Option Int} (h : Ev te σ H (.ref a)) (h1 : Evl.EvO to σ H lo) (h2 : Evl.EvO th σ H hi) (hs : SqT K H a xs) : EvP (tSl (rSlA K) te to th) σ H (fun t H2 => SqT K H2 t (cutV xs lo hi)) := fun H1 e1 Q q =>
  h H1 e1 _ fun H2 e2 => h1 H2 (e1.trans e2) _ fun H3 e3 => h2 H3 ((e1.trans e2).trans e3) _ fun H4 e4 => by
    have s4 := Evl.ex_t (((e1.trans e2).trans e3).trans e4) hs
    refine ⟨a, xs, rfl, s4, fun w => q a H4 ((e2.trans e3).trans e4) ?_, fun _ p np => q p _ (((e2.trans e3).trans e4).trans (Ex.new np)) (Evl.st_of upd_same)⟩
    unfold cutV
    rw [w.1, w.2, List.drop_zero, Nat.sub_zero, List.take_length]
    exact s4
/-- t + u of tuples -/
theorem ev_catA {ta tb : TE} {xs ys : List V} (ha : EvP ta σ H (fun t H2 => SqT K H2 t xs)) (hb : EvP tb σ H (fun t H2 => SqT K H2 t ys)) (hz : xs.length + ys.length ≤ sizeLine) : EvP (tOp (rCatA K) ta tb) σ H (fun t H2 => SqT K H2 t (xs ++ ys)) := fun H1 e1 Q q =>
  ha H1 e1 _ fun t H2 e2 st => hb H2 (e1.trans e2) _ fun u H3 e3 su => by
    have st3 := Evl.ex_t e3 st
    refine ⟨t, u, xs, ys, rfl, rfl, st3, su, hz, fun h0 => q u H3 (e2.trans e3) ?_, fun _ h0 => q t H3 (e2.trans e3) ?_, fun _ _ p np => q p _ ((e2.trans e3).trans (Ex.new np)) (Evl.st_of upd_same)⟩
    · rw [h0]
      exact su
    · rw [h0, List.append_nil]
      exact st3
end
theorem cut_head (xs : List V) (i : Nat) : cutV xs none (some (i : Int)) = xs.take i := by
  unfold cutV
  rw [HT.sIx_none, HT.sIx_nat, List.drop_zero, Nat.sub_zero]
  by_cases h : i ≤ xs.length
  · rw [Nat.min_eq_left h]
  · rw [Nat.min_eq_right (by omega), List.take_length, List.take_of_length_le (by omega)]
theorem cut_rest (xs : List V) (i : Nat) (hi : i ≤ xs.length) : cutV xs (some (i : Int)) none = xs.drop i := by
  unfold cutV
  rw [HT.sIx_none, HT.sIx_nat, Nat.min_eq_left hi, List.take_of_length_le (by rw [List.length_drop]; omega)]
theorem RulesAt.take {K : PySem.W.Frag} {C : Addr} {H : Hp} : ∀ {xs : List V} {rs : List RuleD} (i : Nat), RulesAt K C H xs rs → RulesAt K C H (xs.take i) (rs.take i)
  | _, _, 0, _ => .nil
  | _, _, _ + 1, .nil => .nil
  | _, _, i + 1, .cons h t => .cons h (RulesAt.take i t)
theorem RulesAt.drop {K : PySem.W.Frag} {C : Addr} {H : Hp} : ∀ {xs : List V} {rs : List RuleD} (i : Nat), RulesAt K C H xs rs → RulesAt K C H (xs.drop i) (rs.drop i)
  | _, _, 0, h => h
  | _, _, _ + 1, .nil => .nil
  | _, _, i + 1, .cons _ t => RulesAt.drop i t
theorem RulesAt.app {K : PySem.W.Frag} {C : Addr} {H : Hp} : ∀ {xs ys : List V} {rs us : List RuleD}, RulesAt K C H xs rs → RulesAt K C H ys us → RulesAt K C H (xs ++ ys) (rs ++ us)
  | _, _, _, _, .nil, h => h
  | _, _, _, _, .cons h t, h2 => .cons h (RulesAt.app t h2)
section
variable {P : Program} {w : World} {K : PySem.W.Frag} {mg : Str → Option Value} {base : Heap} {a_LETTERS a_LETTER_TESTS a_LETTER_DEEDS a_ANSWER_TESTS a_ANSWER_DEEDS CR CP : Addr} {tA tN : Tok}
theorem scPlanAdd : FnScope ["self", "other", "raises", "kind"] ["self", "other"] (defScope sPlanAdd) := ⟨rfl, rfl, rfl, by decide +kernel, rfl, by decide +kernel, by decide +kernel⟩
def bothKs (ks ms : List Str) : List Str := lettersL.filter fun k => decide (k ∈ ks) || decide (k ∈ ms)
theorem both_good (ks ms : List Str) : GoodKs (bothKs ks ms) := ⟨List.length_filter_le _ lettersL, List.Pairwise.filter _ (by decide +kernel), fun k hk => (List.mem_filter.mp hk).1⟩
def spPlanAdd (K : PySem.W.Frag) (CR CP : Addr) : Sp := fun vs H Q _ => ∃ (p q : Addr) (ks ms : List Str) (xs ys : List V) (rs us : List RuleD), vs = [.ref p, .ref q] ∧ PlanObj K CP H p ks xs ∧ PlanObj K CP H q ms ys ∧ RulesAt K CR H xs rs ∧ RulesAt K CR H ys us ∧ xs.length + ys.length ≤ 900 ∧ MakesPlan K CR CP H (bothKs ks ms) (xs ++ ys) (rs ++ us) Q
theorem ok_plan_add {f fI : Addr} {fd fdI : FuncData} (F : Fun K "__add__" "Plan.__add__" sPlanAdd f fd) (T : TxR K mg a_LETTERS a_LETTER_TESTS a_LETTER_DEEDS a_ANSWER_TESTS a_ANSWER_DEEDS CR tA tN) (TP : TxP K mg CP) (tyP : ∀ {H : Hp} {p dx : Addr} {fs : List (Str × V)}, H p = some (.ins CP dx fs) → TyX K H (.ref p) (.ref CP))
    (mkP : Mk K CP fI) (G_init : FnOk P w K mg base CX0 3 fI fdI ["self", "raises", "rules"] (spPlanInitG K CR CP sortedOf)) (b_init : Binds K fdI ["self", "raises", "rules"] []) :
    FnOk P w K mg base CX0 5 f fd ["self", "other"] (spPlanAdd K CR CP) := by
  refine F.ok scPlanAdd (fun vs H Q E h => ?_) (fun cdv A outer s H vs Q E hr h => ?_)
  · obtain ⟨p, q, ks, ms, xs, ys, rs, us, rfl, _⟩ := h
    rfl
  · obtain ⟨p, q, ks, ms, xs, ys, rs, us, rfl, hp, hq, hR, hU, hz, k⟩ := h
    obtain ⟨dx, a, b, h1, h2, h3⟩ := id hp
    obtain ⟨dy, c, d, h4, h5, h6⟩ := id hq
    refine ⟨_, pss_cons (ps_if (pt_not (pt_val (pe_callB call_isi (by rfl) TP.n_isinstance (by decide +kernel) (pa_cons (pv 1) (pa_cons (pe_glob (v := .ref CP) rfl TP.g_Plan rfl) pa_nil))))) (pss_one ps_never) pss_nil)
      (pss_cons (ps_setLc (i := 2) (own := [("kind", 3)]) (g := gName 3) (tt := tOr (tTest (tOp (rIn K false) (tVar 3) (tFld K (tVar 0) "raises"))) (tTest (tOp (rIn K false) (tVar 3) (tFld K (tVar 1) "raises")))) rfl scPlanAdd.nd rfl rfl (sw_true rfl rfl rfl (by decide +kernel)) (pi_tup (pe_glob (v := .ref a_LETTERS) rfl T.g_LETTERS rfl)) (blkOk_by (own := [("kind", 3)]) (N := ["self", "other", "raises", "kind"]) (sc := defScope sPlanAdd) (by decide +kernel)) (fun _ _ _ _ _ => (pg_name (i := 3) scPlanAdd.nd rfl (Or.inl rfl))) (fun _ _ _ _ _ => (pts_one (PW.pt (pw_or (pt_cmpR (r := rIn K false) op_in_seq (pv 3) (pe_fld (pv 0) rfl) (by rfl)) (pw_or1 (pt_cmpR (r := rIn K false) op_in_seq (pv 3) (pe_fld (pv 1) rfl) (by rfl))))))) (fun _ _ _ _ _ => (pv 3)))
      (pss_one (ps_ret (pe_make (sp := spPlanInitG K CR CP sortedOf) (E := E0) mkP G_init hr rfl TP.g_Plan b_init .nil pass0 (pa_cons (pv 2) (pa_cons (pe_op op_catA (pe_fld (pv 0) rfl) (pe_fld (pv 1) rfl)) pa_nil)))))), ?_⟩
    refine Evl.q_when (b := false) (Evl.et_is (Evl.et_not (Evl.et_B (ev_isi (Evl.ea_cons (Evl.ev_var rfl) (Evl.ea_cons Evl.ev_c Evl.ea_nil)) (.own CP) (fun H3 e3 => tyP (e3 _ _ h4)) (by simp [PySem.W.kitOne]; rfl)))) rfl) (fun z => nomatch z) (fun _ H1 e1 => ?_)
    have ek : Evl.given (lettersL.map V.str).length (fun i => decide ((lettersL[i]?.getD Str.empty) ∈ ks) || decide ((lettersL[i]?.getD Str.empty) ∈ ms)) (fun i => V.str (lettersL[i]?.getD Str.empty)) = (bothKs ks ms).map V.str := by
      rw [List.length_map]
      exact given_texts lettersL _ _ _ fun i x hx => by
        rw [hx]
        exact ⟨rfl, rfl⟩
    refine Evl.q_asgL (xs := (bothKs ks ms).map V.str) ?_ fun L H2 nL e2 hL => ?_
    · rw [← ek]
      refine el_lcTf _ _ Evl.ev_c (T.s_LETTERS _) (by decide) (fun _ => rfl) (fun i x H2 e2 hi => ?_) (fun i x H2 e2 hi => ?_)
      · obtain ⟨y, rfl, hy⟩ := strs_at hi
        rw [hy]
        refine Evl.et_or (Evl.et_test (Evl.ev_is (Evl.ev_op (Evl.ev_var rfl) (ev_fld (Evl.ev_var rfl) ((e1.trans e2) _ _ h1) TP.cl TP.nR (pf_raises _ _)) (Evl.rv_isT (Evl.ex_t (e1.trans e2) h2) rfl (flat_strs _))) ?_)) (fun _ => Evl.et_test (Evl.ev_is (Evl.ev_op (Evl.ev_var rfl) (ev_fld (Evl.ev_var rfl) ((e1.trans e2) _ _ h4) TP.cl TP.nR (pf_raises _ _)) (Evl.rv_isT (Evl.ex_t (e1.trans e2) h5) rfl (flat_strs _))) ?_))
        · rw [inV_strs]
          rfl
        · rw [inV_strs]
          rfl
      · obtain ⟨y, rfl, hy⟩ := strs_at hi
        rw [hy]
        exact Evl.ev_var rfl
    · have e12 := e1.trans e2
      refine ⟨_, rfl, ?_⟩
      refine ev_catA (K := K) (xs := xs) (ys := ys) (EvP.of (ev_fld (Evl.ev_var rfl) (e12 _ _ h1) TP.cl TP.nU (pf_rules _ _)) fun H3 e3 => Evl.ex_t (e12.trans e3) h3) (EvP.of (ev_fld (Evl.ev_var rfl) (e12 _ _ h4) TP.cl TP.nU (pf_rules _ _)) fun H3 e3 => Evl.ex_t (e12.trans e3) h6) (size_of (by omega)) H2 (Ex.refl _) _ fun t H3 e3 st => ?_
      refine run_mkP (.inl (Evl.sq_of (e3 _ _ hL))) (both_good ks ms) (.inr st) ((hR.ex (e12.trans e3)).app (hU.ex (e12.trans e3))) ?_ (e12.trans e3) k
      rw [List.length_append]
      omega
end
end Ov


namespace Ov
open PySem PySem.Spec PyProof.Rows L2
open Evl (pss_cut tCut Ex Ev EvT EvL EvA EvU)
/-! ### str(plan) -/
section
variable {K : PySem.W.Frag} {σ : L2.St} {H : Hp} {te to : TE} {tr : TA}
theorem ea_star {p : Addr} {xs ys : List V} (h : Ev te σ H (.ref p)) (hs : SqT K H p xs) (hr : EvA tr σ H ys) : EvA (StX.tStar K te tr) σ H (xs ++ ys) := fun H1 e1 Q q =>
  h H1 e1 _ fun H2 e2 => ⟨p, xs, rfl, .inl (Evl.ex_t (e1.trans e2) hs), hr H2 (e1.trans e2) _ fun H3 e3 => q H3 (e2.trans e3)⟩
theorem ev_joinP {x : Str} {l : List Str} (ho : Ev to σ H (.str x)) (he : EvP te σ H (fun p H2 => SqL K H2 p (l.map V.str) ∨ SqT K H2 p (l.map V.str))) (hz : (l.map (·.length)).sum + l.length * x.length ≤ 16777216) :
    Ev (tM1 (fun x xs H Q => ∃ a p, ∃ ys : List Str, x = .str a ∧ xs = [.ref p] ∧ (SqL K H p (ys.map V.str) ∨ SqT K H p (ys.map V.str)) ∧ (ys.map (·.length)).sum + ys.length * a.length ≤ 16777216 ∧ Q (.str (Txt.join a ys)) H) to te) σ H (.str (Str.join x l)) := fun H1 e Q q => by
  refine ho H1 e _ fun H2 e2 => ⟨⟨x, rfl⟩, he H2 (e.trans e2) _ fun p H3 e3 hp => ⟨x, p, l, rfl, rfl, hp, hz, ?_⟩⟩
  rw [TL.join_eq]
  exact q H3 (e2.trans e3)
end
theorem raises_len {ks : List Str} (hl : ks.length ≤ 4) (hk : ∀ k ∈ ks, k ∈ lettersL) : (((("raise" : Str) :: ks).map (·.length)).sum + (("raise" : Str) :: ks).length * (" " : Str).length ≤ 16777216) ∧ (firstLine ks).length ≤ 30000 := by
  have a : ∀ k ∈ ("raise" : Str) :: lettersL, k.length ≤ 16 := by decide +kernel
  refine join_small (fun x hx => a x ?_) (by decide) (by rw [List.length_cons]; omega)
  rcases List.mem_cons.mp hx with z | z
  · rw [z]
    exact List.mem_cons_self
  · exact List.mem_cons_of_mem _ (hk x z)
theorem rule_len {r : RuleD} (g : r.Good) : (ruleText r).length ≤ 60100 := by
  have lk := kinds_len g.k
  have lt := tText_len (fun x hx => testsNot_len (g.ts x hx)) g.nt
  have ld := dText_len (fun x hx => deedsOf_len (g.ds x hx)) g.nd
  have n3 : (Str.ofString "on ").length = 3 := by decide +kernel
  unfold ruleText
  rw [Str.length_append, Str.length_append, Str.length_append]
  omega
theorem lines_len {ks : List Str} {rs : List RuleD} (hl : ks.length ≤ 4) (hk : ∀ k ∈ ks, k ∈ lettersL) (g : ∀ r ∈ rs, r.Good) (hz : rs.length ≤ 10) : ((firstLine ks :: rs.map ruleText).map (·.length)).sum + (firstLine ks :: rs.map ruleText).length * ("\n" : Str).length ≤ 700000 := by
  have h1 := (raises_len hl hk).2
  have h2 := sum_small (rs.map ruleText) 60100 fun x hx => by
    obtain ⟨r, hr, rfl⟩ := List.mem_map.mp hx
    exact rule_len (g r hr)
  have n1 : ("\n" : Str).length = 1 := by decide +kernel
  rw [List.length_map] at h2
  have h3 : rs.length * 60100 ≤ 10 * 60100 := Nat.mul_le_mul_right _ hz
  rw [List.map_cons, List.sum_cons, List.length_cons, List.length_map, n1]
  omega
theorem plan_len {ks : List Str} {rs : List RuleD} (hl : ks.length ≤ 4) (hk : ∀ k ∈ ks, k ∈ lettersL) (g : ∀ r ∈ rs, r.Good) (hz : rs.length ≤ 10) : (planText ks rs).length ≤ 700000 :=
  Nat.le_trans (join_len "\n" _) (lines_len hl hk g hz)
section
variable {P : Program} {w : World} {K : PySem.W.Frag} {mg : Str → Option Value} {base : Heap} {a_LETTERS a_LETTER_TESTS a_LETTER_DEEDS a_ANSWER_TESTS a_ANSWER_DEEDS CR CP : Addr} {tA tN : Tok}
theorem scPlanStr : FnScope ["self", "lines", "rule"] ["self"] (defScope sPlanStr) := ⟨rfl, rfl, rfl, by decide +kernel, rfl, by decide +kernel, by decide +kernel⟩
def spPlanStr (K : PySem.W.Frag) (CR CP : Addr) : Sp := fun vs H Q _ => ∃ (p : Addr) (ks : List Str) (xs : List V) (rs : List RuleD), vs = [.ref p] ∧ PlanObj K CP H p ks xs ∧ RulesAt K CR H xs rs ∧ ks.length ≤ 4 ∧ (∀ k ∈ ks, k ∈ lettersL) ∧ (∀ r ∈ rs, r.Good) ∧ rs.length ≤ 10 ∧ ∀ H', Ex H H' → Q (.str (planText ks rs)) H'
theorem ok_plan_str {f fS : Addr} {fd fdS : FuncData} (F : Fun K "__str__" "Plan.__str__" sPlanStr f fd) (TP : TxP K mg CP) (n_str : mg "str" = none) (stR : PySem.W.findIn K (.ref CR) "__str__" = some (some (.ref fS))) (isS : PySem.W.isFn K (.ref fS) = true)
    (G_str : FnOk P w K mg base CX0 1 fS fdS ["self"] (spRuleStr K CR)) (b_str : Binds K fdS ["self"] []) : FnOk P w K mg base CX0 4 f fd ["self"] (spPlanStr K CR CP) := by
  refine F.ok scPlanStr (fun vs H Q E h => ?_) (fun cdv A outer s H vs Q E hr h => ?_)
  · obtain ⟨p, ks, xs, rs, rfl, _⟩ := h
    rfl
  · obtain ⟨p, ks, xs, rs, rfl, hp, hR, hl, hk, g, hz, q⟩ := h
    obtain ⟨dx, a, b, h1, h2, h3⟩ := id hp
    have hr3 : Room 3 (A.deeper (envOfC "Plan.__str__" (defScope sPlanStr) s.heap.objs.size f cdv)) := hr
    refine ⟨_, pss_cons (ps_set (i := 1) scPlanStr.nd rfl (.inl rfl) (pe_lst (pa_cons (pe_join pe_str (pe_lst (pa_cons pe_str (StX.pa_star (pe_fld (pv 0) rfl) pa_nil)))) pa_nil)))
      (pss_cons (ps_expr (pe_bm PySem.F.plainAttrs_list PySem.F.slot_list_extend PySem.F.type_list_extend mt_extend (pv 1) (pa_cons (pe_lc (own := [("rule", 2)]) (g := gName 2) (tt := tYes) rfl scPlanStr.nd (pi_tup (pe_fld (pv 0) rfl)) (blkOk_by (own := [("rule", 2)]) (N := ["self", "lines", "rule"]) (sc := defScope sPlanStr) (by decide +kernel)) (fun _ _ _ _ _ => (pg_name (i := 2) scPlanStr.nd rfl (Or.inl rfl))) (fun _ _ _ _ _ => pts_nil) (fun _ _ _ _ _ => (pe_callTy (T := "str") (r := rStrI CR (spRuleStr K CR) E0) (call_strI G_str hr3 stR isS b_str pass0) (by rfl) n_str (by decide +kernel) (pa_cons (pv 2) pa_nil)))) pa_nil)))
      (pss_one (ps_ret (pe_join pe_str (pv 1))))), ?_⟩
    have zl := lines_len hl hk g hz
    refine Evl.q_asgL (xs := [V.str (firstLine ks)]) (Evl.el_lst (Evl.ea_cons (ev_joinP (l := ("raise" : Str) :: ks) Evl.ev_c (EvP.lst (vs := (("raise" : Str) :: ks).map V.str) (Evl.el_lst (vs := (("raise" : Str) :: ks).map V.str) (Evl.ea_cons Evl.ev_c ?_) ?_) fun _ _ _ h => .inl (Evl.sq_of h)) (raises_len hl hk).1) Evl.ea_nil) (by show 1 ≤ 100000; decide)) fun L H1 nL e1 hL => ?_
    · have q0 := ea_star (K := K) (xs := ks.map V.str) (ys := []) (tr := tNil) (ev_fld (σ := L2.start ["self", "lines", "rule"] [V.ref p]) (Evl.ev_var (i := 0) rfl) h1 TP.cl TP.nR (pf_raises _ _)) h2 Evl.ea_nil
      rw [List.append_nil] at q0
      exact q0
    · rw [List.length_map, List.length_cons]
      omega
    · refine ⟨_, rfl, .inl ⟨rfl, _, Evl.sq_of hL⟩, ?_⟩
      refine (el_rulesT (fun r => V.str (ruleText r)) (ev_fld (Evl.ev_var rfl) (e1 _ _ h1) TP.cl TP.nU (pf_rules _ _)) (Evl.ex_t e1 h3) (hR.ex e1) (by rw [paired_len hR]; omega) (fun _ => rfl) (fun u r H2 e2 hr ho => ev_strR (EvP.of (p := u) (Evl.ev_var rfl) fun H3 e => ho.ex e) (g r hr))) H1 (Ex.refl _) _ fun Z H2 nZ e2 hZ => ?_
      have e12 := e1.trans e2
      refine ⟨L, Z, _, _, rfl, rfl, e2 _ _ hL, hZ, ?_, ?_⟩
      · rw [List.length_map]
        exact size_of (by simp only [List.length_cons, List.length_nil]; omega)
      · have el : [V.str (firstLine ks)] ++ rs.map (fun r => V.str (ruleText r)) = (firstLine ks :: rs.map ruleText).map V.str := by
          rw [List.map_cons, List.map_map]
          rfl
        rw [el]
        dsimp only
        refine Evl.s_ret (v := .str (planText ks rs)) ?_ ?_
        rotate_left
        · exact fun H4 e4 => q H4 ((Ex.mut e12 nL).trans e4)
        exact ev_joinP (K := K) (l := firstLine ks :: rs.map ruleText) Evl.ev_c (EvP.of (p := L) (Evl.ev_var rfl) fun H3 e3 => .inl (Evl.sq_of (e3 _ _ upd_same))) (Nat.le_trans zl (by decide))
end
end Ov


namespace Ov
open PySem PySem.Spec PyProof.Rows L2
open Evl (pss_cut tCut Ex Ev EvT EvL EvA EvU)
/-! ### the law's drawn plans, their texts -/
def allKs : Nat → List (List Str)
  | 0 => [[]]
  | n + 1 => [] :: lettersL.flatMap fun k => (allKs n).map (k :: ·)
theorem in_allKs : ∀ {n : Nat} {ks : List Str}, ks.length ≤ n → (∀ k ∈ ks, k ∈ lettersL) → ks ∈ allKs n
  | 0, [], _, _ => List.mem_singleton.mpr rfl
  | _ + 1, [], _, _ => List.mem_cons_self
  | n + 1, k :: ks, h, g => List.mem_cons_of_mem _ (List.mem_flatMap.mpr ⟨k, g k List.mem_cons_self, List.mem_map.mpr ⟨ks, in_allKs (by simpa using h) fun x hx => g x (List.mem_cons_of_mem _ hx), rfl⟩⟩)
/-- in the order of their texts -/
def Asc (ks : List Str) : Prop := ks = lettersL.filter fun k => decide (k ∈ ks)
theorem sub_asc {ks : List Str} (h : ks.Sublist lettersL) : Asc ks := by
  have a : ∀ ks ∈ allKs 4, ks.isSublist lettersL = true → ks = lettersL.filter fun k => decide (k ∈ ks) := by decide +kernel
  exact a ks (in_allKs h.length_le fun k hk => h.subset hk) (List.isSublist_iff_sublist.mpr h)
theorem sub_good {ks : List Str} (h : ks.Sublist lettersL) : GoodKs ks := ⟨h.length_le, h.nodup (by decide +kernel), fun k hk => h.subset hk⟩
theorem sorted_asc {ks : List Str} (g : GoodKs ks) (h : sortedS ks = true) : Asc ks := by
  have a : ∀ ks ∈ allKs 4, sortedS ks = true → ks.Nodup → ks = lettersL.filter fun k => decide (k ∈ ks) := by decide +kernel
  exact a ks (in_allKs g.1 g.2.2) h g.2.1
theorem GoodKs.perm {ks ys : List Str} (g : GoodKs ks) (p : ys.Perm ks) : GoodKs ys := ⟨by rw [p.length_eq]; exact g.1, p.nodup_iff.mpr g.2.1, fun k hk => g.2.2 k (p.mem_iff.mp hk)⟩
/-- the kinds that a plan keeps are just these -/
theorem sorted_one {ks ys : List Str} (g : GoodKs ks) (h : Asc ks) (s : sortedOf ks ys) : ys = ks := by
  have e := sorted_asc (g.perm s.1) s.2
  unfold Asc at h e
  rw [h, e]
  exact List.filter_congr fun k _ => decide_eq_decide.mpr s.1.mem_iff
theorem sorted_same {ks ms ys : List Str} (g : GoodKs ks) (h : Asc ms) (p : ks.Perm ms) (s : sortedOf ks ys) : ys = ms := sorted_one ((g.perm p.symm)) h ⟨s.1.trans p, s.2⟩
theorem asc_filter (g : Str → Bool) : Asc (lettersL.filter g) := by
  unfold Asc
  refine List.filter_congr fun k hk => ?_
  by_cases h : g k = true
  · rw [h, decide_eq_true (List.mem_filter.mpr ⟨hk, h⟩)]
  · rw [decide_eq_false fun z => h (List.mem_filter.mp z).2]
    simpa using h
/-- at p a drawn plan: kinds, rules -/
def PlanAt (H : Hp) (p : Addr) (ks : List Str) (rs : List RuleD) : Prop := ∃ (t L : Addr) (xs : List V), H p = some (.tup [.ref t, .ref L]) ∧ H t = some (.tup (ks.map V.str)) ∧ H L = some (.lst xs) ∧ DrawnAt H xs rs
theorem PlanAt.ex {H H' : Hp} {p : Addr} {ks : List Str} {rs : List RuleD} (e : Ex H H') (h : PlanAt H p ks rs) : PlanAt H' p ks rs := by
  obtain ⟨t, L, xs, h1, h2, h3, h4⟩ := h
  exact ⟨t, L, xs, e _ _ h1, e _ _ h2, e _ _ h3, h4.ex e⟩
theorem kp_of {H H' : Hp} {a b x : Addr} (k : Kp a b H H') (D : Deal H a b) {zs : List V} (h : H x = some (.tup zs)) : H' x = some (.tup zs) := by
  obtain ⟨ns, m, h1, h2, _⟩ := D.ex
  exact k x _ (fun z => by rw [z, h1] at h; cases h) (fun z => by rw [z, h2] at h; cases h) h
/-- .. of whose list S holds -/
def PlanFar (S : Addr → Prop) (H : Hp) (p : Addr) (ks : List Str) (rs : List RuleD) : Prop := ∃ (t L : Addr) (xs : List V), H p = some (.tup [.ref t, .ref L]) ∧ H t = some (.tup (ks.map V.str)) ∧ H L = some (.lst xs) ∧ DrawnAt H xs rs ∧ S L
abbrev Far (a b : Addr) : Addr → Prop := fun L => L ≠ a ∧ L ≠ b
section
variable {S : Addr → Prop} {H H' : Hp} {a b p : Addr} {ks : List Str} {rs : List RuleD}
theorem PlanFar.at_ (h : PlanFar S H p ks rs) : PlanAt H p ks rs := by
  obtain ⟨t, L, xs, h1, h2, h3, h4, _⟩ := h
  exact ⟨t, L, xs, h1, h2, h3, h4⟩
theorem PlanFar.imp {S2 : Addr → Prop} (h : PlanFar S H p ks rs) (i : ∀ L, S L → S2 L) : PlanFar S2 H p ks rs := by
  obtain ⟨t, L, xs, h1, h2, h3, h4, h5⟩ := h
  exact ⟨t, L, xs, h1, h2, h3, h4, i L h5⟩
theorem PlanFar.ex (e : Ex H H') (h : PlanFar S H p ks rs) : PlanFar S H' p ks rs := by
  obtain ⟨t, L, xs, h1, h2, h3, h4, h5⟩ := h
  exact ⟨t, L, xs, e _ _ h1, e _ _ h2, e _ _ h3, h4.ex e, h5⟩
theorem PlanFar.kpS (hS : ∀ L, S L → L ≠ a ∧ L ≠ b) (k : Kp a b H H') (D : Deal H a b) (h : PlanFar S H p ks rs) : PlanFar S H' p ks rs := by
  obtain ⟨t, L, xs, h1, h2, h3, h4, h5⟩ := h
  exact ⟨t, L, xs, kp_of k D h1, kp_of k D h2, k _ _ (hS L h5).1 (hS L h5).2 h3, h4.kp k D, h5⟩
theorem PlanFar.kp (k : Kp a b H H') (D : Deal H a b) (h : PlanFar (Far a b) H p ks rs) : PlanFar (Far a b) H' p ks rs := h.kpS (fun _ z => z) k D
theorem PlanFar.new (D : Deal H a b) (h : PlanFar (fun L => H L = none) H' p ks rs) : PlanFar (Far a b) H' p ks rs := h.imp fun L z => ⟨D.nea z, D.neb z⟩
theorem PlanFar.updL {D : Addr} {zs : List V} {o : HO} (hD : H D = some (.lst zs)) (hS : ∀ L, S L → L ≠ D) (h : PlanFar S H p ks rs) : PlanFar S (upd H D o) p ks rs := by
  obtain ⟨t, L, xs, h1, h2, h3, h4, h5⟩ := h
  refine ⟨t, L, xs, ?_, ?_, ?_, h4.updL hD, h5⟩
  · rw [upd_ne (ne_of h1 hD (fun z => nomatch z))]
    exact h1
  · rw [upd_ne (ne_of h2 hD (fun z => nomatch z))]
    exact h2
  · rw [upd_ne (hS L h5)]
    exact h3
end
def spWidePlan : Sp := fun vs H Q _ => ∃ (a b : Addr) (m : Nat), vs = [.ref a, .int (m : Int)] ∧ m ≤ 10 ∧ Deal H a b ∧ ∀ p ks rs H', ks.Sublist lettersL → rs.length ≤ m → Kp a b H H' → Deal H' a b → PlanFar (fun L => H L = none) H' p ks rs → Q (.ref p) H'
section
variable {P : Program} {w : World} {K : PySem.W.Frag} {mg : Str → Option Value} {base : Heap} {a_LETTERS a_LETTER_TESTS a_LETTER_DEEDS a_ANSWER_TESTS a_ANSWER_DEEDS CR CP : Addr} {tA tN : Tok}
theorem scText : FnScope ["_law_drawn", "_law_rule"] ["_law_drawn"] (defScope sText) := ⟨rfl, rfl, rfl, by decide +kernel, rfl, by decide +kernel, by decide +kernel⟩
def spText (K : PySem.W.Frag) : Sp := fun vs H Q _ => ∃ (p : Addr) (ks : List Str) (rs : List RuleD), vs = [.ref p] ∧ PlanAt H p ks rs ∧ ks.length ≤ 4 ∧ (∀ k ∈ ks, k ∈ lettersL) ∧ rs.length ≤ 10 ∧ ∀ H', Ex H H' → Q (.str (planText ks rs)) H'
theorem el_drawnL {σ : L2.St} {H : Hp} {tl te : TE} {a : Addr} {xs : List V} {rs : List RuleD} {j : Nat} {vs : List Nat} (g : RuleD → V) (h : Ev tl σ H (.ref a)) (hx : SqL K H a xs) (hR : DrawnAt H xs rs) (hz : xs.length ≤ 40000) (hw : ∀ x, wipe ((wipe σ vs).set j (some x)) vs = wipe σ vs)
    (he : ∀ p r H1, Ex H H1 → r ∈ rs → r.Ok → RuleAt H1 p r → Ev te ((wipe σ vs).set j (some (.ref p))) H1 (g r)) : EvL (tLc (iList K tl) (gName j) tYes te vs) σ H (rs.map g) := by
  have e : (List.range xs.length).map (fun i => ((rs[i]?).map g).getD .non) = rs.map g := range_at rs (paired_len hR) _ g fun i r hi => by rw [hi]; rfl
  rw [← e, ← given_all]
  refine Evl.el_lcL (fun _ => true) _ h hx hz hw (fun _ _ _ _ _ => et_yes) (fun i x H1 e1 hi _ => ?_)
  obtain ⟨p, r, rfl, hr, ho, ok⟩ := hR.at_ hi
  show Ev te _ H1 (((rs[i]?).map g).getD .non)
  rw [hr]
  exact he p r H1 e1 (List.mem_of_getElem? hr) ok (ho.same (ex_same e1))
theorem ev_ruleText {σ : L2.St} {H : Hp} {ta : TE} {p : Addr} {r : RuleD} (h : Ev ta σ H (.ref p)) (hp : RuleAt H p r) (g : r.Good) : Ev (tCall (spRuleText K) [] E0 (tCons ta tNil)) σ H (.str (ruleText r)) := fun H1 e1 Q q =>
  h H1 e1 _ fun H2 e2 => by
    obtain ⟨t, d, h1, h2, h3⟩ := hp.same (ex_same (e1.trans e2))
    exact ⟨p, t, d, r, rfl, Evl.st_of h1, Evl.st_of h2, Evl.st_of h3, g, fun H3 e3 => q H3 (e2.trans e3)⟩
theorem DrawnAt.good {H : Hp} {r : RuleD} : ∀ {xs : List V} {rs : List RuleD}, DrawnAt H xs rs → r ∈ rs → r.Good
  | _, _, .nil, h => nomatch h
  | _, _, .cons ⟨_, _, _, ok⟩ t, h => by
    rcases List.mem_cons.mp h with rfl | h
    · exact ok.good
    · exact DrawnAt.good t h
/-- a list and a list put together -/
theorem ev_catL {σ : L2.St} {H : Hp} {ta tb : TE} {xs ys : List V} (ha : EvL ta σ H xs) (hb : ∀ H1, Ex H H1 → EvL tb σ H1 ys) (hz : xs.length + ys.length ≤ sizeLine) : EvP (tOp rCat ta tb) σ H (fun p H2 => H2 p = some (.lst (xs ++ ys))) := fun H1 e1 Q q =>
  ha H1 e1 _ fun p H2 np e2 hp => hb H2 (e1.trans e2) H2 (Ex.refl _) _ fun u H3 nu e3 hu => ⟨p, u, xs, ys, rfl, rfl, e3 _ _ hp, hu, hz, fun l nl => q l _ ((e2.trans e3).trans (Ex.new nl)) upd_same⟩
theorem ok_text {f fR : Addr} {fd fdR : FuncData} (F : Fun K "_law_text" "_law_text" sText f fd) (D_rule_text : Df K mg "_law_rule_text" sRuleText ["_law_rule"] fR fdR) : FnOk P w K mg base CX0 2 f fd ["_law_drawn"] (spText K) := by
  have G_rule_text : FnOk P w K mg base CX0 1 fR fdR ["_law_rule"] (spRuleText K) := ok_rule_text D_rule_text.F
  refine F.ok scText (fun vs H Q E h => ?_) (fun cdv A outer s H vs Q E hr h => ?_)
  · obtain ⟨p, ks, rs, rfl, _⟩ := h
    rfl
  · obtain ⟨p, ks, rs, rfl, ⟨t, L, xs, h1, h2, h3, h4⟩, hl, hk, hz, q⟩ := h
    refine ⟨_, pss_one (ps_ret (pe_join pe_str (pe_op op_cat (pe_lst (pa_cons (pe_join pe_str (pe_op op_catA (pe_tup (pa_cons pe_str pa_nil)) (pe_ix ix_tup (pv 0) pe_int (fun _ _ => rfl)))) pa_nil)) (pe_lc (own := [("_law_rule", 1)]) (g := gName 1) (tt := tYes) rfl scText.nd (pi_list (pe_ix ix_tup (pv 0) pe_int (fun _ _ => rfl))) (blkOk_by (own := [("_law_rule", 1)]) (N := ["_law_drawn", "_law_rule"]) (sc := defScope sText) (by decide +kernel)) (fun _ _ _ _ _ => (pg_name (i := 1) scText.nd rfl (Or.inl rfl))) (fun _ _ _ _ _ => pts_nil) (fun _ _ _ _ _ => (pe_call (E := E0) G_rule_text (hr.mono (by decide)) rfl D_rule_text.g D_rule_text.F.kp D_rule_text.b .nil pass0 (pa_cons (pv 1) pa_nil))))))), ?_⟩
    have zl := lines_len hl hk (fun r hr => (h4.good hr)) hz
    have el : (firstLine ks :: rs.map ruleText).map V.str = [V.str (firstLine ks)] ++ rs.map (fun r => V.str (ruleText r)) := by
      rw [List.map_cons, List.map_map]
      rfl
    have lx : xs.length ≤ 10 := by rw [paired_len h4]; exact hz
    refine Evl.s_ret (v := .str (planText ks rs)) (ev_joinP (K := K) (l := firstLine ks :: rs.map ruleText) Evl.ev_c ?_ (Nat.le_trans zl (by decide))) fun H1 e1 => q H1 e1
    rw [el]
    refine (ev_catL (xs := [V.str (firstLine ks)]) (ys := rs.map (fun r => V.str (ruleText r))) (Evl.el_lst (Evl.ea_cons (ev_joinP (K := K) (l := ("raise" : Str) :: ks) Evl.ev_c ?_ (raises_len hl hk).1) Evl.ea_nil) (by show 1 ≤ 100000; decide)) (fun H1 e1 => ?_) ?_).imp fun _ _ h => .inl (Evl.sq_of h)
    · refine (ev_catA (K := K) (xs := [V.str "raise"]) (ys := ks.map V.str) (EvP.tup (Evl.eu_tup (Evl.ea_cons Evl.ev_c Evl.ea_nil) (by show 1 ≤ 100000; decide)) fun _ _ _ h => Evl.st_of h) (EvP.of (p := t) (ev_ixT (j := 0) (Evl.ev_var rfl) Evl.ev_c (Evl.st_of h1) rfl) fun H2 e2 => Evl.st_of (e2 _ _ h2)) ?_).imp fun _ _ h => .inr h
      rw [List.length_map]
      exact size_of (by simp only [List.length_cons, List.length_nil]; omega)
    · exact el_drawnL (fun r => V.str (ruleText r)) (ev_ixT (j := 1) (Evl.ev_var rfl) Evl.ev_c (Evl.st_of (e1 _ _ h1)) rfl) (Evl.sq_of (e1 _ _ h3)) (h4.ex e1) (by omega) (fun _ => rfl) fun p r H2 e2 hr ok at2 => ev_ruleText (Evl.ev_var rfl) at2 ok.good
    · rw [List.length_map]
      exact size_of (by simp only [List.length_cons, List.length_nil]; omega)
end
end Ov


namespace Ov
open PySem PySem.Spec PyProof.Rows L2
open Evl (pss_cut tCut Ex Ev EvT EvL EvA EvU)
/-! ### expressions over plans -/
/-- at p a Plan of these kinds and rules -/
def PlanIs (K : PySem.W.Frag) (CR CP : Addr) (ks : List Str) (rs : List RuleD) (p : Addr) (H : Hp) : Prop := ∃ xs, PlanObj K CP H p ks xs ∧ RulesAt K CR H xs rs
structure PlanOk (ks : List Str) (rs : List RuleD) : Prop where
  sl : ks.Sublist lettersL
  g : ∀ r ∈ rs, r.Good
  hz : rs.length ≤ 10
theorem letters_plain : Plain lettersL := by
  have a : ∀ x ∈ lettersL, PyData.canLay0 (.str x) = true := by decide +kernel
  exact a
theorem sub_plain {ks : List Str} (h : ks.Sublist lettersL) : Plain ks := fun x hx => letters_plain x (h.subset hx)
theorem pf_other {a b : Addr} {m : Str} (h : m ≠ "rules" ∧ m ≠ "raises") : (pf a b).lookup m = none := by
  unfold pf
  rw [lookup_putF, if_neg h.1, lookup_putF, if_neg h.2]
  rfl
section
variable {K : PySem.W.Frag} {CR CP df1 : Addr} {σ : L2.St} {H : Hp} {ta tb : TE} {ks ms : List Str} {rs us : List RuleD}
theorem PlanIs.ex {p : Addr} {H' : Hp} (h : PlanIs K CR CP ks rs p H) (e : Ex H H') : PlanIs K CR CP ks rs p H' := by
  obtain ⟨xs, h1, h2⟩ := h
  exact ⟨xs, h1.ex e, h2.ex e⟩
theorem sqt_kp {a b t : Addr} {H' : Hp} {xs : List V} (k : Kp a b H H') (D : Deal H a b) (h : SqT K H t xs) : SqT K H' t xs := by
  obtain ⟨ns, m, h1, h2, _⟩ := D.ex
  rcases h with (h | ⟨u, h⟩) | h
  · exact .inl (.inl (k _ _ (ne_of h h1 fun z => nomatch z) (ne_of h h2 fun z => nomatch z) h))
  · exact .inl (.inr ⟨u, k _ _ (ne_of h h1 fun z => nomatch z) (ne_of h h2 fun z => nomatch z) h⟩)
  · exact .inr h
theorem RuleObj.kp {a b p : Addr} {H' : Hp} {r : RuleD} (k : Kp a b H H') (D : Deal H a b) (h : RuleObj K CR H p r) : RuleObj K CR H' p r := by
  obtain ⟨dx, t, d, h3, h4, h5⟩ := h
  obtain ⟨ns, m, h1, h2, _⟩ := id D.ex
  exact ⟨dx, t, d, k _ _ (ne_of h3 h1 fun z => nomatch z) (ne_of h3 h2 fun z => nomatch z) h3, sqt_kp k D h4, sqt_kp k D h5⟩
theorem RulesAt.kp {a b : Addr} {H' : Hp} (k : Kp a b H H') (D : Deal H a b) : ∀ {xs : List V} {rs : List RuleD}, RulesAt K CR H xs rs → RulesAt K CR H' xs rs
  | _, _, .nil => .nil
  | _, _, .cons ⟨p, h1, h2⟩ t => .cons ⟨p, h1, h2.kp k D⟩ (RulesAt.kp k D t)
theorem PlanIs.kp {a b p : Addr} {H' : Hp} (k : Kp a b H H') (D : Deal H a b) (h : PlanIs K CR CP ks rs p H) : PlanIs K CR CP ks rs p H' := by
  obtain ⟨xs, ⟨dx, t, d, h3, h4, h5⟩, h6⟩ := h
  obtain ⟨ns, m, h1, h2, _⟩ := id D.ex
  exact ⟨xs, ⟨dx, t, d, k _ _ (ne_of h3 h1 fun z => nomatch z) (ne_of h3 h2 fun z => nomatch z) h3, sqt_kp k D h4, sqt_kp k D h5⟩, h6.kp k D⟩
/-- != of two plans that are alike -/
theorem ev_neP (ha : EvP ta σ H (PlanIs K CR CP ks rs)) (hb : EvP tb σ H (PlanIs K CR CP ks rs)) (o : PlanOk ks rs) : Ev (tOp (rNeI CP (spPlanEq K CR CP) E0) ta tb) σ H (.bl false) := fun H1 e1 Q q =>
  ha H1 e1 _ fun p H2 e2 hp => hb H2 (e1.trans e2) _ fun p2 H3 e3 hp2 => by
    obtain ⟨xs, h1, h2⟩ := hp.ex e3
    obtain ⟨ys, h3, h4⟩ := id hp2
    obtain ⟨dx, a, b, h5, _⟩ := id h1
    obtain ⟨dy, c, d, h6, _⟩ := id h3
    exact ⟨p, p2, dx, dy, _, _, rfl, rfl, h5, h6, p, p2, ks, xs, ys, rs, rfl, h1, h3, sub_plain o.sl, h2, h4, o.g, fun H4 e4 => ⟨_, rfl, q H4 ((e2.trans e3).trans e4)⟩⟩
theorem ev_strP (ha : EvP ta σ H (PlanIs K CR CP ks rs)) (o : PlanOk ks rs) : Ev (tCB (rStrI CP (spPlanStr K CR CP) E0) (tCons ta tNil)) σ H (.str (planText ks rs)) := fun H1 e1 Q q =>
  ha H1 e1 _ fun p H2 e2 hp => by
    obtain ⟨xs, h1, h2⟩ := hp
    obtain ⟨dx, a, b, h5, _⟩ := id h1
    have gk := sub_good o.sl
    exact ⟨p, dx, _, rfl, h5, p, ks, xs, rs, rfl, h1, h2, gk.1, gk.2.2, o.g, o.hz, fun H4 e4 => ⟨_, rfl, q H4 (e2.trans e4)⟩⟩
theorem ev_lenP (ha : EvP ta σ H (PlanIs K CR CP ks rs)) (hz : rs.length ≤ 10) : Ev (tCB (rLenI CP (spPlanLen K CP) E0) (tCons ta tNil)) σ H (.int (rs.length : Int)) := fun H1 e1 Q q =>
  ha H1 e1 _ fun p H2 e2 hp => by
    obtain ⟨xs, h1, h2⟩ := hp
    obtain ⟨dx, a, b, h5, _⟩ := id h1
    have l := paired_len h2
    refine ⟨p, dx, _, rfl, h5, p, ks, xs, rfl, h1, xs.length, rfl, by omega, ?_⟩
    rw [l]
    exact q H2 e2
/-- Plan.read(text) -/
theorem evP_read (ha : Ev ta σ H (.str (planText ks rs))) (o : PlanOk ks rs) : EvP (ClX.tCMeth CP (spPlanReadG K CR CP sortedOf) E0 (tC (V.ref CP)) (tCons ta tNil)) σ H (PlanIs K CR CP ks rs) := fun H1 e1 Q q =>
  ⟨rfl, ha H1 e1 _ fun H2 e2 => by
    have gk := sub_good o.sl
    have hz := o.hz
    refine ⟨planText ks rs, firstLine ks, ks, rs, rfl, lines_read gk.2.2 o.g, first_read gk.2.2, Nat.le_trans (plan_len gk.1 gk.2.2 o.g o.hz) (by decide), Nat.le_trans (raises_len gk.1 gk.2.2).2 (by decide), by omega, o.g, gk.1, gk.2.1, gk.2.2, fun p H3 ys xs so e3 po ro => ?_⟩
    rw [sorted_one gk (sub_asc o.sl) so] at po
    exact q p H3 (e2.trans e3) ⟨xs, po, ro⟩⟩
/-- the kinds that raise, the rules of a plan -/
theorem evP_raises (TP : Cls K CP) (nR : NoAttr K CP "raises") {p : Addr} (ha : Ev ta σ H (.ref p)) (hp : PlanIs K CR CP ks rs p H) : EvP (tFld K ta "raises") σ H (fun t H2 => SqT K H2 t (ks.map V.str)) := by
  obtain ⟨xs, ⟨dx, a, b, h1, h2, h3⟩, h4⟩ := hp
  exact EvP.of (ev_fld ha h1 TP nR (pf_raises _ _)) fun H1 e1 => Evl.ex_t e1 h2
def RulesIn (K : PySem.W.Frag) (CR : Addr) (rs : List RuleD) (b : Addr) (H : Hp) : Prop := ∃ xs, (SqL K H b xs ∨ SqT K H b xs) ∧ RulesAt K CR H xs rs
theorem evP_rules (TP : Cls K CP) (nU : NoAttr K CP "rules") {p : Addr} (ha : Ev ta σ H (.ref p)) (hp : PlanIs K CR CP ks rs p H) : EvP (tFld K ta "rules") σ H (fun t H2 => ∃ xs, SqT K H2 t xs ∧ RulesAt K CR H2 xs rs) := by
  obtain ⟨xs, ⟨dx, a, b, h1, h2, h3⟩, h4⟩ := hp
  exact EvP.of (ev_fld ha h1 TP nU (pf_rules _ _)) fun H1 e1 => ⟨xs, Evl.ex_t e1 h3, h4.ex e1⟩
theorem evP_list {tl : TE} (h : EvP tl σ H (fun t H2 => ∃ xs, SqT K H2 t xs ∧ RulesAt K CR H2 xs rs)) : EvP (tCB (rListOf K) (tCons tl tNil)) σ H (RulesIn K CR rs) := fun H1 e1 Q q =>
  h H1 e1 _ fun t H2 e2 ⟨xs, h1, h2⟩ => ⟨t, xs, rfl, .inr h1, fun l nl => q l _ (e2.trans (Ex.new nl)) ⟨xs, .inl (Evl.sq_of upd_same), h2.ex (Ex.new nl)⟩⟩
/-- Plan(kinds, rules), the kinds in any order -/
theorem evP_make (sl : ks.Sublist lettersL) (pm : ms.Perm ks) (hz : rs.length ≤ 1000) (ha : EvP ta σ H (fun a H2 => SqL K H2 a (ms.map V.str) ∨ SqT K H2 a (ms.map V.str))) (hb : EvP tb σ H (RulesIn K CR rs)) : EvP (tMake CP (spPlanInitG K CR CP sortedOf) [] E0 (tCons ta (tCons tb tNil))) σ H (PlanIs K CR CP ks rs) := fun H1 e1 Q q =>
  ha H1 e1 _ fun a H2 e2 sa => hb H2 (e1.trans e2) _ fun b H3 e3 ⟨xs, sb, R⟩ => by
    refine run_mkP (exB e3 sa) ((sub_good sl).perm pm) sb R (by rw [paired_len R]; exact hz) (Ex.refl H3) fun p H4 ys so e4 po ro => ?_
    rw [sorted_same ((sub_good sl).perm pm) (sub_asc sl) pm so] at po
    exact q p H4 ((e2.trans e3).trans e4) ⟨xs, po, ro⟩
/-- Plan(kinds) -/
theorem evP_bare (sl : ks.Sublist lettersL) (dfT : ∀ H, SqT K H df1 []) (ha : EvP ta σ H (fun a H2 => SqT K H2 a (ks.map V.str))) : EvP (tMake CP (spPlanInitG K CR CP sortedOf) [V.ref df1] E0 (tCons ta tNil)) σ H (PlanIs K CR CP ks []) := fun H1 e1 Q q =>
  ha H1 e1 _ fun a H2 e2 sa => by
    refine run_mkP (.inr sa) (sub_good sl) (.inr (dfT _)) .nil (Nat.zero_le _) (Ex.refl H2) fun p H4 ys so e4 po ro => ?_
    rw [sorted_one (sub_good sl) (sub_asc sl) so] at po
    exact q p H4 (e2.trans e4) ⟨[], po, ro⟩
/-- Plan(rules=[one rule]) -/
theorem evP_kw {te : TE} {r : RuleD} (dfT : ∀ H, SqT K H df1 []) (h : EvP te σ H (fun p H2 => RuleObj K CR H2 p r)) : EvP (tMakeK CP 0 (["rules"] : List Str).length (spPlanInitG K CR CP sortedOf) (fun vs zs => vs ++ V.ref df1 :: zs) E0 tNil (tCons (tLst (tCons te tNil)) tNil)) σ H (PlanIs K CR CP [] [r]) := fun H1 e1 Q q =>
  h H1 e1 _ fun u H2 e2 hu => ⟨by show 1 ≤ sizeLine; decide, fun L nL => ⟨rfl, rfl, by
    have e3 : Ex H2 (upd H2 L (.lst [V.ref u])) := Ex.new nL
    refine run_mkP (ks := []) (rs := [r]) (.inr (dfT _)) ⟨Nat.zero_le _, List.Pairwise.nil, fun k hk => nomatch hk⟩ (.inl (Evl.sq_of upd_same)) (.cons ⟨u, rfl, hu.ex e3⟩ .nil) (by show 1 ≤ 1000; decide) (Ex.refl _) fun p H4 ys so e4 po ro => ?_
    have ey : ys = [] := List.perm_nil.mp so.1
    rw [ey] at po
    exact q p H4 ((e2.trans e3).trans e4) ⟨_, po, ro⟩⟩⟩
/-- p + q -/
theorem evP_add (sl : ks.Sublist lettersL) (ha : EvP ta σ H (PlanIs K CR CP ks rs)) (hb : EvP tb σ H (PlanIs K CR CP [] us)) (hz : rs.length + us.length ≤ 900) : EvP (tOp (rAddI CP (spPlanAdd K CR CP) E0) ta tb) σ H (PlanIs K CR CP ks (rs ++ us)) := fun H1 e1 Q q =>
  ha H1 e1 _ fun p H2 e2 hp => hb H2 (e1.trans e2) _ fun p2 H3 e3 hp2 => by
    obtain ⟨xs, h1, h2⟩ := hp.ex e3
    obtain ⟨ys, h3, h4⟩ := id hp2
    obtain ⟨dx, a, b, h5, _⟩ := id h1
    obtain ⟨dy, c, d, h6, _⟩ := id h3
    refine ⟨p, p2, dx, dy, _, _, rfl, rfl, h5, h6, p, p2, ks, [], xs, ys, rs, us, rfl, h1, h3, h2, h4, by rw [paired_len h2, paired_len h4]; exact hz, fun o H4 zs so e4 po ro => ⟨o, rfl, ?_⟩⟩
    have eb : bothKs ks [] = ks := by
      have e := sub_asc sl
      unfold Asc at e
      rw [e]
      unfold bothKs
      refine List.filter_congr fun k _ => ?_
      rw [← e]
      simp
    rw [eb] at so
    rw [sorted_one (sub_good sl) (sub_asc sl) so] at po
    exact q o H4 ((e2.trans e3).trans e4) ⟨_, po, ro⟩
/-- one rule of a plan -/
theorem evP_item {ti : TE} {p : Addr} {i : Nat} {r : RuleD} (ha : Ev ta σ H (.ref p)) (hp : PlanIs K CR CP ks rs p H) (hi : Ev ti σ H (.int (i : Int))) (hr : rs[i]? = some r) : EvP (tOp (rIxI CP (spPlanItem K CP) E0) ta ti) σ H (fun p H2 => RuleObj K CR H2 p r) := fun H1 e1 Q q =>
  ha H1 e1 _ fun H2 e2 => hi H2 (e1.trans e2) _ fun H3 e3 => by
    obtain ⟨xs, h1, h2⟩ := hp.ex ((e1.trans e2).trans e3)
    obtain ⟨dx, a, b, h5, _⟩ := id h1
    have hl : i < xs.length := by rw [paired_len h2]; exact (List.getElem?_eq_some_iff.mp hr).1
    obtain ⟨u, r2, hu, hr2, ho⟩ := h2.at_ (List.getElem?_eq_getElem hl)
    rw [hr] at hr2
    obtain rfl := Option.some.inj hr2
    refine ⟨p, dx, _, rfl, h5, p, ks, xs, i, _, rfl, h1, List.getElem?_eq_getElem hl, ?_⟩
    rw [hu]
    exact q u H3 (e2.trans e3) ho
/-- two new lists of the same texts are not unequal -/
theorem ev_neSL {l : List Str} (ol : Plain l) (ha : EvL ta σ H (l.map V.str)) (hb : EvL tb σ H (l.map V.str)) : Ev (tOp (rNeD K) ta tb) σ H (.bl false) := Evl.ev_opLL ha hb fun p q H1 hp hq _ => fun H2 e2 Q k =>
  ⟨_, _, .lst (Evl.sq_of (e2 _ _ hp)) (dp_strs l), .lst (Evl.sq_of (e2 _ _ hq)) (dp_strs l), shaped_strsL l ol, shaped_strsL l ol, by
    rw [eqv_strsL, decide_eq_true rfl]
    exact k H2 (Ex.refl _)⟩
/-- Rule.read(str(rule)) -/
theorem evP_ruleRead {r : RuleD} (ha : Ev ta σ H (.str (ruleText r))) (g : r.Good) : EvP (ClX.tCMeth CR (spRuleReadG K CR) E0 (tC (V.ref CR)) (tCons ta tNil)) σ H (fun p H2 => RuleObj K CR H2 p r) := fun H1 e1 Q q =>
  ⟨rfl, ha H1 e1 _ fun H2 e2 => ⟨r, rfl, g, fun p H3 e3 ro => q p H3 (e2.trans e3) ro⟩⟩
end
end Ov


namespace Ov
open PySem PySem.Spec PyProof.Rows L2
open Evl (pss_cut tCut Ex Ev EvT EvL EvA EvU)
/-! ### own rules: x.rpartition(sep) -/
section
variable {X : Cx}
theorem mt_rpartition : MtR X "str.rpartition" (fun x xs H Q => ∃ a b, x = .str a ∧ xs = [.str b] ∧ (b.length == 0) = false ∧ a.length ≤ sizeLine ∧
    ∀ p, H p = none → Q (.ref p) (upd H p (.tup [.str (Txt.rpartition a b).1, .str (Txt.rpartition a b).2.1, .str (Txt.rpartition a b).2.2]))) := by
  intro pins s σ H x xs v us Q I rx rs h
  obtain ⟨a, b, rfl, rfl, hb, hz, h⟩ := h
  obtain ⟨t, rfl⟩ := rx
  cases rs with
  | cons r1 rs =>
    cases rs
    obtain ⟨u, rfl⟩ := r1
    refine call_meets F.slot_str_rpartition (typeIs_str _ _ _) F.entry_str_rpartition (F.args_str_rpartition_2 _ _) (meets_str_rpartition a b t u hb hz) ?_
    unfold Txt.rpartition at h
    revert h
    cases Builtin.Str.lastOccurrence a b 0 a.length with
    | none => intro h; exact laid_parts I h
    | some i => intro h; exact laid_parts I h
theorem pe_rpartition {o e : Expr} {to te : TE} {apos pos : Pos} (ho : PE X o to) (he : PE X e te) (hs : starEach [e] X.env = [(false, eval e X.env)] := by rfl) (hbase : attributeBase o "rpartition" X.env (eval o X.env) = eval o X.env := by rfl) (hline : (apos.endLine == pos.line) = true := by rfl) :
    PE X (.Call (.Attribute o "rpartition" apos) [e] [] pos) (tM1 (fun x xs H Q => ∃ a b, x = .str a ∧ xs = [.str b] ∧ (b.length == 0) = false ∧ a.length ≤ sizeLine ∧
      ∀ p, H p = none → Q (.ref p) (upd H p (.tup [.str (Txt.rpartition a b).1, .str (Txt.rpartition a b).2.1, .str (Txt.rpartition a b).2.2]))) to te) :=
  pe_m1 F.slot_str_rpartition F.type_str_rpartition mt_rpartition ho he hs hbase hline
end
/-! ### what a plan does, as functions -/
def letterKinds : List Str := ["ask", "day", "off", "stop"]
def relsL : List Str := ["nothing", "above", "later", "level", "below"]
def lastWord (t : Str) : Str × Str × Str := Txt.rpartition (Txt.removeprefix t "not ") " "
def holdsM (t tw to : Str) : Bool := decide ((if (lastWord t).2.2 = "whole" then tw else to) ∈ (holdsD.lookup (lastWord t).1).getD []) != Txt.startswith t "not "
def relationM (n i : Int) : Option (Int × Int) → Str
  | none => "nothing"
  | some (m, j) => if n = m then (if i > j then "later" else "level") else if n > m then "above" else "below"
def letterRuleM (rs : List RuleD) (k tw to : Str) : Option Nat := rs.findIdx? fun r => decide (r.k = k) && r.ts.all fun t => holdsM t tw to
def answerRuleM (rs : List RuleD) (lv : Bool) : Option Nat := rs.findIdx? fun r => decide (r.k = ("answer" : Str)) && r.ts.all fun t => lv != Txt.startswith t "not "
def deedsM (rs : List RuleD) : Option Nat → List Str
  | none => []
  | some i => ((rs[i]?).map RuleD.ds).getD []
def wholeKind (k : Str) : Bool := decide (k ∈ (["ask", "stop"] : List Str))
def last1 (l : List Str) : List Str := l.drop (l.length - 1)
def effectM (k : Str) (ds : List Str) : Bool × Bool :=
  if wholeKind k then (decide (("take" : Str) ∈ ds), decide (("wipe" : Str) ∈ ds)) else (decide (last1 ds = ([("take" : Str)])), decide (last1 ds = ([("wipe" : Str)])))
/-- a number, or nothing, as a value -/
def ov : Option Nat → V
  | none => .non
  | some i => .int (i : Int)
theorem relation_in (n i : Int) (p : Option (Int × Int)) : relationM n i p ∈ relsL := by
  rcases p with _ | ⟨m, j⟩
  · show ("nothing" : Str) ∈ relsL
    decide +kernel
  · show (if n = m then (if i > j then ("later" : Str) else "level") else if n > m then "above" else "below") ∈ relsL
    split <;> split <;> decide +kernel
theorem letter_test {k t : Str} (hk : k ∈ letterKinds) (h : t ∈ testsNot k) : t ∈ testsL ++ testsL.map (("not " : Str) ++ ·) := by
  have a : ∀ k ∈ letterKinds, testsNot k = testsL ++ testsL.map (("not " : Str) ++ ·) := by decide +kernel
  rw [← a k hk]
  exact h
theorem held_word {t : Str} (h : t ∈ testsL ++ testsL.map (("not " : Str) ++ ·)) : ∃ l, holdsD.lookup (lastWord t).1 = some l := by
  have a : ∀ t ∈ testsL ++ testsL.map (("not " : Str) ++ ·), (holdsD.lookup (lastWord t).1).isSome = true := by decide +kernel
  exact Option.isSome_iff_exists.mp (a t h)
theorem evP_ite {σ : L2.St} {H : Hp} {t : TT} {ta tb : TE} {b : Bool} {Pp : Addr → Hp → Prop} (h : EvT t σ H b) (h1 : b = true → EvP ta σ H Pp) (h2 : b = false → EvP tb σ H Pp) : EvP (tIf t ta tb) σ H Pp := fun H1 e Q q => h H1 e _ fun H2 e2 => by
  cases b with
  | true => exact h1 rfl H2 (e.trans e2) Q fun p H3 e3 => q p H3 (e2.trans e3)
  | false => exact h2 rfl H2 (e.trans e2) Q fun p H3 e3 => q p H3 (e2.trans e3)
end Ov


namespace Ov
open PySem PySem.Spec PyProof.Rows L2
/-! ### enumerate(a tuple): the library's walk, as a turn of the layer -/
theorem meets_enumerate_newB1 {v : Value} {o : Obj} {H : Heap → Prop} (B : Begins v o H) :
    Meets (Builtin.«enumerate.__new__» ⟨[.type "enumerate", v], []⟩) (fun _ R s => H s.heap ∧
      R (.ok (.ret (.ref (s.heap.push o).objs.size))) { s with heap := (s.heap.push o).push { cls := .type "enumerate", data := .fields #[.none, .bool false, .ref s.heap.objs.size, rawInt 0, .none, .none] } }) :=
  .of_wp fun prog w A R s h => by
    obtain ⟨hp, g, d, tk, os⟩ := s; obtain ⟨h1, h⟩ := h
    have hsub := sub_enumerate
    have q1 : ∀ {A' : Around} {E : Value → Shared → Prop} {Q : Value → Shared → Prop}, Q (.ref hp.objs.size) ⟨hp.push o, g, d, tk, os⟩ → wpAny (model prog w) A' (pyIter v) Q E ⟨hp, g, d, tk, os⟩ :=
      fun q => B.iter prog w _ _ ⟨hp, g, d, tk, os⟩ _ h1 q
    wp_walk using q1
    refine wpAny_stack_any fun st => wpAny_pure ?_
    split
    · rename_i c _ _ _ _ _
      cases (c == Value.type "enumerate")
      · wp_walk using q1
        exact ⟨_, rfl, h⟩
      · wp_walk using q1
        exact ⟨_, rfl, h⟩
    · wp_walk using q1
      exact ⟨_, rfl, h⟩
section
variable {prog : Program} {w : World} {A : Around} {E : Value → Shared → Prop} {s : Shared}
theorem enum_begins1 {v : Value} {o : Obj} {H : Heap → Prop} {Q : Value → Shared → Prop} (B : Begins v o H) (h1 : H s.heap)
    (h : ∀ h', IsEnum h' (s.heap.objs.size + 1) s.heap.objs.size 0 .none → h'.get? s.heap.objs.size = some o → h'.objs.size = s.heap.objs.size + 2 →
      (∀ b o, s.heap.get? b = some o → h'.get? b = some o) → Q (.ref (s.heap.objs.size + 1)) { s with heap := h' }) :
    wpAny (model prog w) A (call (.type "enumerate") [v]) Q E s := by
  refine callType_new F.called_enumerate (by decide) (F.typeCall_enumerate_1 _) (F.newCall_enumerate_1 _) (fun obj => F.args_object_init_2 obj _) F.entry_enumerate_new
    (meets_enumerate_newB1 B) ⟨h1, ?_⟩
  have hz : (s.heap.push o).objs.size = s.heap.objs.size + 1 := Heap.size_push ..
  show _ ∧ _
  rw [hz]
  have he : IsEnum ((s.heap.push o).push { cls := .type "enumerate", data := .fields #[.none, .bool false, .ref s.heap.objs.size, rawInt 0, .none, .none] }) (s.heap.objs.size + 1) s.heap.objs.size 0 .none := by
    have := Heap.get?_push_size (s.heap.push o) (o := { cls := .type "enumerate", data := .fields #[.none, .bool false, .ref s.heap.objs.size, rawInt 0, .none, .none] }) rfl
    rw [hz] at this; exact this
  refine ⟨⟨_, he, rfl⟩, h _ he (Heap.get?_push_of_some _ (Heap.get?_push_size _ B.free)) (by rw [Heap.size_push, hz]) fun b o x => Heap.get?_push_of_some _ (Heap.get?_push_of_some _ x)⟩
end
/-- a tuple's items at each turn, counted -/
def Itu (K : PySem.W.Frag) (a : Addr) : It where
  go i H := ∃ xs x, SqT K H a xs ∧ xs[i]? = some x
  yld i H v H' := ∃ p x, v = .ref p ∧ H p = none ∧ H' = upd H p (.tup [.int (i : Int), x]) ∧ ∀ xs, SqT K H a xs → xs[i]? = some x
  stop i H := ∃ xs, SqT K H a xs ∧ xs.length = i
def CntAtT (a e it : Addr) (i : Nat) (h : Heap) : Prop := ((∃ old, IsEnum h e it (i : Int) old) ∧ h.IsTupleIter it a i) ∧ e ≠ it ∧ a ≠ it ∧ a ≠ e
theorem CntAtT.stands {a e it : Addr} {i : Nat} {h : Heap} {its : List Value} (st : CntAtT a e it i h) (l : h.IsTuple a its.toArray) : (∃ old, IsEnum h e it (i : Int) old) ∧ h.IsTupleIter it a i ∧ h.IsTuple a its.toArray :=
  ⟨st.1.1, st.1.2, l⟩
theorem turn_enumT {P : Program} {w : World} {K : PySem.W.Frag} {elts : List Expr} {kk : Nat} {tpos : Pos} (a e it : Addr) : Turn P w K (.Tuple elts kk tpos) (Itu K a) [e, it] e (CntAtT a e it) where
  mem := List.mem_cons_self
  obj := by
    rintro i h ⟨⟨⟨old, he⟩, o, ho, _, hd⟩, _⟩ b hb
    rcases List.mem_cons.mp hb with rfl | hb
    · exact ⟨_, he, fun v q => nomatch q⟩
    · obtain rfl := List.mem_singleton.mp hb
      exact ⟨o, ho, fun v q => by rw [hd] at q; cases q⟩
  keep := by
    rintro i h h' ⟨⟨⟨old, he⟩, hi⟩, r⟩ k
    exact ⟨⟨⟨old, k e (by simp) _ he⟩, hi.at fun o q => k it (by simp) o q⟩, r⟩
  item := by
    rintro X rfl rfl rfl hc i pins s σ H E I hf st ⟨xs, x, hq, hx⟩
    obtain ⟨its, rv, p, hz⟩ := I.tuple hq
    obtain ⟨u, hu, ru⟩ := rv.get hx
    have hl : s.heap.IsTuple a its.toArray := p
    obtain ⟨n1, n2, n3⟩ := st.2
    have W := WalksT.enumerateD (A := X.A) (Draws.tuple (prog := X.prog) (w := X.w) (A := X.A.in1) (I.ok.hd hc) it a n2 its.toArray) e n1 (by simp [n1, n3.symm]) (by simp)
    refine W.item i s _ _ (by simpa using (List.getElem?_eq_some_iff.mp hu).1) (st.stands hl) fun T vals h1 tk hv hT tup mid k1 => ?_
    obtain ⟨t, u', hu', rfl⟩ := hv
    obtain rfl : u = u' := by
      rw [List.getElem?_toArray, hu] at hu'
      exact Option.some.inj hu'
    have hw := W.apart i T h1 mid
    refine ⟨_, rfl, W.go elts kk tpos i T { s with heap := h1, toks := tk } _ _ mid fun h2 st2 k2 => ?_⟩
    have new : ObjOk X.prog X.w (upd H T (.tup [.int (i : Int), x])) h2 T (.tup [.int (i : Int), x]) := by
      obtain ⟨o, g, cl, n, d⟩ := tup
      exact ⟨by show 2 ≤ sizeLine; decide, [.int (i : Int) t, u], .cons ⟨_, rfl⟩ (.cons ru .nil), ⟨o, k2 T o hw g, cl, n, d⟩⟩
    refine ⟨.ref T, _, I.turnedNew (t' := tk) (fun b o hb q => k2 b o hb (k1 b o hb q)) hf hT new, rfl, ⟨T, x, rfl, I.hok.fresh hT, rfl, fun ys hy => by rw [I.tuple_inj hy hq]; exact hx⟩, ⟨⟨st2.1, st2.2.1⟩, n1, n2, n3⟩, fun b hb => ?_⟩
    have hb1 : b ≠ T := fun z => hw (by rw [← z]; exact hb)
    rw [upd_ne hb1]
    exact (hf b hb).1
  done := by
    rintro X rfl rfl rfl hc i pins s σ H E I hf st ⟨xs, hq, hx⟩
    obtain ⟨its, rv, p, hz⟩ := I.tuple hq
    obtain ⟨n1, n2, n3⟩ := st.2
    have W := WalksT.enumerateD (A := X.A) (Draws.tuple (prog := X.prog) (w := X.w) (A := X.A.in1) (I.ok.hd hc) it a n2 its.toArray) e n1 (by simp [n1, n3.symm]) (by simp)
    have e : its.toArray.size = i := by simp [← hx, rv.length]
    refine W.done s _ _ (by rw [e]; exact st.stands p) fun h1 tk k1 => ⟨rfl, I.turnedL (ch := [_, _]) k1 hf⟩
  self := by
    rintro A i s Q E ⟨⟨⟨old, he⟩, _⟩, _⟩ h
    exact wpAny_pyIter_enum he h
/-- enumerate(a tuple) -/
def iEnumT (K : PySem.W.Frag) (ta : TA) : TI := fun σ H R => ta σ H fun vs H1 => ∃ (a : Addr) (xs : List V), vs = [.ref a] ∧ SqT K H1 a xs ∧ R (Itu K a) H1
theorem pi_enumT {X : Cx} {e : Expr} {ta : TA} {p pos tpos : Pos} {elts : List Expr} {kk : Nat} (hg : Gl X "enumerate") (hm : X.mg "enumerate" = none) (ha : PA X [e] ta) (hs : starEach [e] X.env = [(false, eval e X.env)] := by rfl) :
    PI X (.Tuple elts kk tpos) (.Call (.Name "enumerate" p) [e] [] pos) (iEnumT X.K ta) := by
  refine ⟨fun pins s σ H R I h => ?_⟩
  refine Call_ (ld_blt I hg hm boot_enumerate (PyProof.Rows.callWith_type1 (thn (ha.run pos pins s σ H _ I h) fun us s2 ⟨vs, H2, I2, r1, q1⟩ => ?_) hs rfl))
  obtain ⟨a, xs, ev, hq, q⟩ := q1
  subst ev
  cases r1 with
  | cons r rr =>
    cases rr
    cases r
    obtain ⟨its, rv, pl, hz⟩ := I2.tuple hq
    have hlt : a < s2.heap.objs.size := by
      obtain ⟨o, e, _⟩ := pl
      exact Heap.lt_size e
    refine enum_begins1 (begins_tuple a its.toArray) pl fun h1 he hit hsz k => wpAny_pyIter_enum he ?_
    have I3 : Inv X pins σ H2 { s2 with heap := h1 } := I2.kept (t' := s2.toks) k
    refine ⟨s2.heap.objs.size + 1, [s2.heap.objs.size + 1, s2.heap.objs.size], _, _, H2, rfl, I3, turn_enumT a (s2.heap.objs.size + 1) s2.heap.objs.size, ⟨⟨⟨.none, by simpa using he⟩, ⟨_, hit, rfl, rfl⟩⟩, Nat.succ_ne_self _, Nat.ne_of_lt hlt, Nat.ne_of_lt (Nat.lt_succ_of_lt hlt)⟩, fun b hb => ?_, q⟩
    have hle : s2.heap.objs.size ≤ b := by
      rcases List.mem_cons.mp hb with z | z
      · rw [z]; exact Nat.le_add_right _ _
      · rw [List.mem_singleton.mp z]; exact Nat.le_refl _
    exact I2.fpOk hle (I2.hok.fresh hle)
theorem walk_enumT {K : PySem.W.Frag} {a : Addr} {xs : List V} : Walk (Itu K a) xs.length (fun H => SqT K H a xs) (YPair (fun i => some (.int (i : Int))) (fun i => xs[i]?)) where
  goes _ _ hi h := ⟨xs, _, h, List.getElem?_eq_getElem hi⟩
  stops _ h := ⟨xs, h, rfl⟩
  yields := by
    rintro i H v H' _ h ⟨p, x, rfl, hp, rfl, f⟩
    exact ⟨p, _, x, rfl, hp, rfl, rfl, f xs h⟩
/-- enumerate(a list or a tuple) -/
def iEnumB (K : PySem.W.Frag) (ta : TA) : TI := fun σ H R => iEnum K ta σ H R ∨ iEnumT K ta σ H R
theorem pi_enumB {X : Cx} {e : Expr} {ta : TA} {p pos tpos : Pos} {elts : List Expr} {kk : Nat} (hg : Gl X "enumerate") (hm : X.mg "enumerate" = none) (ha : PA X [e] ta) (hs : starEach [e] X.env = [(false, eval e X.env)] := by rfl) :
    PI X (.Tuple elts kk tpos) (.Call (.Name "enumerate" p) [e] [] pos) (iEnumB X.K ta) :=
  ⟨fun pins s σ H R I h => h.elim (fun h => (pi_enum hg hm ha hs).run pins s σ H R I h) (fun h => (pi_enumT hg hm ha hs).run pins s σ H R I h)⟩
end Ov


namespace Ov
open PySem PySem.Spec PyProof.Rows L2
open Evl (pss_cut tCut Ex Ev EvT EvL EvA EvU)
/-! ### acting: what a plan does with what comes -/
structure TxW (K : PySem.W.Frag) (w : World) (mg : Str → Option Value) (a_HOLDS : Addr) : Prop where
  g_HOLDS : mg "HOLDS" = some (.ref a_HOLDS)
  s_HOLDS : ∀ z l, holdsD.lookup z = some l → ∃ q, KDct K w a_HOLDS z (.ref q) ∧ ∀ H, SqT K H q (l.map V.str)
  n_enumerate : mg "enumerate" = none
  n_all : mg "all" = none
theorem rv_isN {x : V} {H : Hp} : Evl.RV (fun x y H Q => y = .non ∧ Q (.bl (decide (x = .non))) H) x .non H (.bl (decide (x = .non))) := fun H1 _ _ q => ⟨rfl, q H1 (Ex.refl H1)⟩
theorem rv_notN {x : V} {H : Hp} : Evl.RV (fun x y H Q => y = .non ∧ Q (.bl (!decide (x = .non))) H) x .non H (.bl (!decide (x = .non))) := fun H1 _ _ q => ⟨rfl, q H1 (Ex.refl H1)⟩
def PartAt (K : PySem.W.Frag) (H : Hp) (v : V) : Option (Int × Int) → Prop
  | none => v = .non
  | some (m, j) => ∃ b, v = .ref b ∧ SqT K H b [.int m, .int j]
theorem relation_some (n i m j : Int) : relationM n i (some (m, j)) = if n = m then (if i > j then ("later" : Str) else ("level" : Str)) else if n > m then ("above" : Str) else ("below" : Str) := rfl
theorem PartAt.ex {K : PySem.W.Frag} {H H' : Hp} {v : V} (e : Ex H H') : ∀ {p : Option (Int × Int)}, PartAt K H v p → PartAt K H' v p
  | none, h => h
  | some (m, j), ⟨b, h1, h2⟩ => ⟨b, h1, Evl.ex_t e h2⟩
def spRelation (K : PySem.W.Frag) : Sp := fun vs H Q _ => ∃ (a : Addr) (v : V) (n i : Int) (p : Option (Int × Int)), vs = [.ref a, v] ∧ SqT K H a [.int n, .int i] ∧ PartAt K H v p ∧ ∀ H', Ex H H' → Q (.str (relationM n i p)) H'
def spWholeKind : Sp := fun vs H Q _ => ∃ k : Str, vs = [.str k] ∧ ∀ H', Ex H H' → Q (.bl (wholeKind k)) H'
def spDeedsM (K : PySem.W.Frag) (CR CP : Addr) : Sp := fun vs H Q _ => ∃ (p : Addr) (ks : List Str) (rs : List RuleD) (r : Option Nat), vs = [.ref p, ov r] ∧ PlanIs K CR CP ks rs p H ∧ (∀ i, r = some i → i < rs.length) ∧ ∀ t H', Ex H H' → SqT K H' t ((deedsM rs r).map V.str) → Q (.ref t) H'
def spEffect (K : PySem.W.Frag) : Sp := fun vs H Q _ => ∃ (k : Str) (t : Addr) (ds : List Str), vs = [.str k, .ref t] ∧ SqT K H t (ds.map V.str) ∧ Plain ds ∧ ds.length ≤ 1000 ∧ ∀ p H', Ex H H' → H' p = some (.tup [.bl (effectM k ds).1, .bl (effectM k ds).2]) → Q (.ref p) H'
section
variable {P : Program} {w : World} {K : PySem.W.Frag} {mg : Str → Option Value} {base : Heap} {CR CP : Addr}
theorem scRelation : FnScope ["letter", "part"] ["letter", "part"] (defScope sRelation) := ⟨rfl, rfl, rfl, by decide +kernel, rfl, by decide +kernel, by decide +kernel⟩
theorem scIsWholeKind : FnScope ["kind"] ["kind"] (defScope sIsWholeKind) := ⟨rfl, rfl, rfl, by decide +kernel, rfl, by decide +kernel, by decide +kernel⟩
theorem scDeedsOf : FnScope ["plan", "at"] ["plan", "at"] (defScope sDeedsOf) := ⟨rfl, rfl, rfl, by decide +kernel, rfl, by decide +kernel, by decide +kernel⟩
theorem scEffect : FnScope ["kind", "deeds"] ["kind", "deeds"] (defScope sEffect) := ⟨rfl, rfl, rfl, by decide +kernel, rfl, by decide +kernel, by decide +kernel⟩
theorem ok_relation {f : Addr} {fd : FuncData} (F : Fun K "relation" "relation" sRelation f fd) : FnOk P w K mg base CX0 1 f fd ["letter", "part"] (spRelation K) := by
  refine F.ok scRelation (fun vs H Q E h => ?_) (fun cdv A outer s H vs Q E hr h => ?_)
  · obtain ⟨a, v, n, i, p, rfl, _⟩ := h
    rfl
  · obtain ⟨a, v, n, i, p, rfl, ha, hp, q⟩ := h
    refine ⟨_, pss_cons (ps_if (pt_cmpR op_isN (pv 1) pe_non (nomark _)) (pss_one (ps_ret pe_str)) pss_nil)
      (pss_cons (ps_if (pt_cmpR op_ne (pe_ix ix_tup (pv 0) pe_int (fun _ _ => rfl)) (pe_ix ix_tup (pv 1) pe_int (fun _ _ => rfl)) (nomark _)) (pss_one (ps_ret (pe_ifExp (pt_cmpR op_gt (pe_ix ix_tup (pv 0) pe_int (fun _ _ => rfl)) (pe_ix ix_tup (pv 1) pe_int (fun _ _ => rfl)) (nomark _)) pe_str pe_str))) pss_nil)
      (pss_one (ps_ret (pe_ifExp (pt_cmpR op_gt (pe_ix ix_tup (pv 0) pe_int (fun _ _ => rfl)) (pe_ix ix_tup (pv 1) pe_int (fun _ _ => rfl)) (nomark _)) pe_str pe_str)))), ?_⟩
    rcases p with _ | ⟨m, j⟩
    · obtain rfl : v = .non := hp
      exact Evl.q_when (b := true) (Evl.et_test (Evl.ev_op (Evl.ev_var rfl) Evl.ev_c rv_isN)) (fun _ H1 e1 => Evl.s_ret (v := .str "nothing") Evl.ev_c fun H2 e2 => q H2 (e1.trans e2)) (fun z => nomatch z)
    · obtain ⟨b, rfl, hb⟩ := hp
      refine Evl.q_when (b := false) (Evl.et_test (Evl.ev_op (Evl.ev_var rfl) Evl.ev_c rv_isN)) (fun z => nomatch z) (fun _ H1 e1 => ?_)
      have hn : ∀ H', Ex H H' → Ev (tOp (rIxT K) (tVar 0) (tC (V.int 0))) [some (.ref a), some (.ref b)] H' (.int n) := fun H' e => ev_ixT (j := 0) (Evl.ev_var rfl) Evl.ev_c (Evl.ex_t e ha) rfl
      have hi : ∀ H', Ex H H' → Ev (tOp (rIxT K) (tVar 0) (tC (V.int 1))) [some (.ref a), some (.ref b)] H' (.int i) := fun H' e => ev_ixT (j := 1) (Evl.ev_var rfl) Evl.ev_c (Evl.ex_t e ha) rfl
      have hm : ∀ H', Ex H H' → Ev (tOp (rIxT K) (tVar 1) (tC (V.int 0))) [some (.ref a), some (.ref b)] H' (.int m) := fun H' e => ev_ixT (j := 0) (Evl.ev_var rfl) Evl.ev_c (Evl.ex_t e hb) rfl
      have hj : ∀ H', Ex H H' → Ev (tOp (rIxT K) (tVar 1) (tC (V.int 1))) [some (.ref a), some (.ref b)] H' (.int j) := fun H' e => ev_ixT (j := 1) (Evl.ev_var rfl) Evl.ev_c (Evl.ex_t e hb) rfl
      refine Evl.q_when (b := !decide (n = m)) (Evl.et_is (Evl.et_test (Evl.ev_op (hn H1 e1) (hm H1 e1) (Evl.rv_ne rfl))) (by simp)) (fun hb H2 e2 => ?_) (fun hb H2 e2 => ?_)
      · have e12 := e1.trans e2
        have hne : ¬ n = m := by simpa using hb
        refine Evl.s_ret (v := .str (relationM n i (some (m, j)))) (Evl.ev_if (b := decide (n > m)) (Evl.et_test (Evl.ev_op (hn H2 e12) (hm H2 e12) Evl.rv_I0)) (fun h => ?_) (fun h => ?_)) fun H3 e3 => q H3 (e12.trans e3)
        · have h2 : n > m := of_decide_eq_true h
          rw [relation_some, if_neg hne, if_pos h2]
          exact Evl.ev_c
        · have h2 : ¬ n > m := of_decide_eq_false h
          rw [relation_some, if_neg hne, if_neg h2]
          exact Evl.ev_c
      · have e12 := e1.trans e2
        have hne : n = m := by simpa using hb
        refine Evl.s_ret (v := .str (relationM n i (some (m, j)))) (Evl.ev_if (b := decide (i > j)) (Evl.et_test (Evl.ev_op (hi H2 e12) (hj H2 e12) Evl.rv_I0)) (fun h => ?_) (fun h => ?_)) fun H3 e3 => q H3 (e12.trans e3)
        · have h2 : i > j := of_decide_eq_true h
          rw [relation_some, if_pos hne, if_pos h2]
          exact Evl.ev_c
        · have h2 : ¬ i > j := of_decide_eq_false h
          rw [relation_some, if_pos hne, if_neg h2]
          exact Evl.ev_c
theorem ok_whole_kind {f : Addr} {fd : FuncData} (F : Fun K "is_whole_kind" "is_whole_kind" sIsWholeKind f fd) : FnOk P w K mg base CX0 1 f fd ["kind"] spWholeKind := by
  refine F.ok scIsWholeKind (fun vs H Q E h => ?_) (fun cdv A outer s H vs Q E hr h => ?_)
  · obtain ⟨k, rfl, _⟩ := h
    rfl
  · obtain ⟨k, rfl, q⟩ := h
    refine ⟨_, pss_one (ps_ret (pe_cmpR op_in_seq (pv 0) (pe_tup (pa_cons pe_str (pa_cons pe_str pa_nil))) (by rfl))), ?_⟩
    refine Evl.s_ret (v := .bl (wholeKind k)) (Evl.ev_is (Evl.ev_inU (xs := (["ask", "stop"] : List Str).map V.str) (Evl.ev_var rfl) (Evl.eu_tup (Evl.ea_cons Evl.ev_c (Evl.ea_cons Evl.ev_c Evl.ea_nil)) (by show 2 ≤ 100000; decide)) rfl (flat_strs _)) ?_) fun H1 e1 => q H1 e1
    rw [inV_strs]
    rfl
theorem rule_deeds {H : Hp} {xs : List V} {rs : List RuleD} {i : Nat} (h : RulesAt K CR H xs rs) (hi : i < rs.length) : ∃ p r, xs[i]? = some (.ref p) ∧ rs[i]? = some r ∧ RuleObj K CR H p r := by
  have hl : i < xs.length := by rw [paired_len h]; exact hi
  obtain ⟨p, r, h1, h2, h3⟩ := h.at_ (List.getElem?_eq_getElem hl)
  exact ⟨p, r, by rw [List.getElem?_eq_getElem hl, h1], h2, h3⟩
theorem ok_deedsM {f : Addr} {fd : FuncData} (F : Fun K "deeds_of" "deeds_of" sDeedsOf f fd) (TR : Cls K CR) (nD : NoAttr K CR "deeds") (TP : Cls K CP) (nU : NoAttr K CP "rules") : FnOk P w K mg base CX0 1 f fd ["plan", "at"] (spDeedsM K CR CP) := by
  refine F.ok scDeedsOf (fun vs H Q E h => ?_) (fun cdv A outer s H vs Q E hr h => ?_)
  · obtain ⟨p, ks, rs, r, rfl, _⟩ := h
    rfl
  · obtain ⟨p, ks, rs, r, rfl, hp, hi, q⟩ := h
    refine ⟨_, pss_one (ps_ret (pe_ifExp (pt_cmpR op_isN (pv 1) pe_non (nomark _)) (pe_tup pa_nil) (pe_fld (pe_ix ix_tup (pe_fld (pv 0) rfl) (pv 1) (fun _ _ => rfl)) rfl))), ?_⟩
    rcases r with _ | i
    · refine (evP_ite (b := true) (Pp := fun t H2 => SqT K H2 t ((deedsM rs none).map V.str)) (Evl.et_test (Evl.ev_op (Evl.ev_var rfl) Evl.ev_c rv_isN)) (fun _ => EvP.tup (Evl.eu_tup Evl.ea_nil (Nat.zero_le _)) fun _ _ _ h => Evl.st_of h) (fun z => nomatch z)) H (Ex.refl _) _ fun t H1 e1 st => q t H1 e1 st
    · obtain ⟨xs, ⟨dx, a, b, h1, h2, h3⟩, h4⟩ := hp
      obtain ⟨u, r, hu, hr2, ho⟩ := rule_deeds h4 (hi i rfl)
      refine (evP_ite (b := false) (Pp := fun t H2 => SqT K H2 t ((deedsM rs (some i)).map V.str)) (Evl.et_test (Evl.ev_op (Evl.ev_var rfl) Evl.ev_c rv_isN)) (fun z => nomatch z) (fun _ => ?_)) H (Ex.refl _) _ fun t H1 e1 st => q t H1 e1 st
      have e : deedsM rs (some i) = r.ds := by
        show ((rs[i]?).map RuleD.ds).getD [] = r.ds
        rw [hr2]
        rfl
      rw [e]
      exact ev_fd (T := TR) (r := r) nD (ev_ixT (j := i) (ev_fld (Evl.ev_var rfl) h1 TP nU (pf_rules _ _)) (Evl.ev_var rfl) h3 hu) ho
theorem cut_last1 (xs : List V) : cutV xs (some (-1)) none = xs.drop (xs.length - 1) := by
  unfold cutV
  rw [HT.sIx_none]
  rcases Nat.eq_zero_or_pos xs.length with h | h
  · rw [List.eq_nil_of_length_eq_zero h]
    simp
  · have e : HT.sIx xs.length 0 (some (-1)) = xs.length - 1 := by
      unfold HT.sIx
      simp
      omega
    rw [e, List.take_of_length_le (by rw [List.length_drop]; omega)]
theorem ok_effect {f fW : Addr} {fd fdW : FuncData} (F : Fun K "effect" "effect" sEffect f fd) (D_is_whole_kind : Df K mg "is_whole_kind" sIsWholeKind ["kind"] fW fdW) : FnOk P w K mg base CX0 2 f fd ["kind", "deeds"] (spEffect K) := by
  have G_is_whole_kind : FnOk P w K mg base CX0 1 fW fdW ["kind"] spWholeKind := ok_whole_kind D_is_whole_kind.F
  refine F.ok scEffect (fun vs H Q E h => ?_) (fun cdv A outer s H vs Q E hr h => ?_)
  · obtain ⟨k, t, ds, rfl, _⟩ := h
    rfl
  · obtain ⟨k, t, ds, rfl, ht, pd, hl, q⟩ := h
    refine ⟨_, pss_cons (ps_if (pt_val (pe_call G_is_whole_kind (hr.mono (by decide)) rfl D_is_whole_kind.g D_is_whole_kind.F.kp D_is_whole_kind.b .nil pass0 (pa_cons (pv 0) pa_nil))) (pss_one (ps_ret (pe_tup (pa_cons (pe_cmpR op_in_seq pe_str (pv 1) (by rfl)) (pa_cons (pe_cmpR op_in_seq pe_str (pv 1) (by rfl)) pa_nil))))) pss_nil)
      (pss_one (ps_ret (pe_tup (pa_cons (pe_cmpR (op_eqD hr.units) (pe_slice sl_tupA (pv 1) (po_some (pe_un un_neg pe_int)) po_none) (pe_tup (pa_cons pe_str pa_nil)) (nomark _)) (pa_cons (pe_cmpR (op_eqD hr.units) (pe_slice sl_tupA (pv 1) (po_some (pe_un un_neg pe_int)) po_none) (pe_tup (pa_cons pe_str pa_nil)) (nomark _)) pa_nil))))), ?_⟩
    have hin : ∀ (z : Str) H', Ex H H' → Ev (tOp (rIn K false) (tC (V.str z)) (tVar 1)) [some (.str k), some (.ref t)] H' (.bl (decide (z ∈ ds))) := fun z H' e => by
      refine Evl.ev_is (Evl.ev_op Evl.ev_c (Evl.ev_var rfl) (Evl.rv_isT (Evl.ex_t e ht) rfl (flat_strs _))) ?_
      rw [inV_strs]
    have hq : ∀ (z : Str) H', Ex H H' → PyData.canLay0 (.str z) = true → Ev (tOp (rEqD K) (tSl (rSlA K) (tVar 1) (tPart (tUn (rU fun i => V.int (-i)) (tC (V.int 1)))) tNoPart) (tTup (tCons (tC (V.str z)) tNil))) [some (.str k), some (.ref t)] H' (.bl (decide (last1 ds = [z]))) := fun z H' e hz => by
      refine ev_eqTs (l := last1 ds) (m := [z]) (fun x hx => pd x (List.mem_of_mem_drop hx)) (fun x hx => by rw [List.mem_singleton.mp hx]; exact hz) ?_ (EvP.tup (Evl.eu_tup (Evl.ea_cons Evl.ev_c Evl.ea_nil) (by show 1 ≤ 100000; decide)) fun _ _ _ h => Evl.st_of h)
      have e1 := ev_slA (K := K) (xs := ds.map V.str) (lo := some (-1)) (hi := none) (te := tVar 1) (to := tPart (tUn (rU fun i => V.int (-i)) (tC (V.int 1)))) (th := tNoPart) (σ := [some (.str k), some (.ref t)]) (H := H') (Evl.ev_var rfl) (Evl.eo_some (Evl.ev_un Evl.ev_c Evl.ru_neg)) Evl.eo_none (Evl.ex_t e ht)
      rw [cut_last1, List.length_map, ← List.map_drop] at e1
      exact e1
    refine Evl.q_when (b := wholeKind k) (Evl.et_B (ev_call (Evl.ea_cons (Evl.ev_var rfl) Evl.ea_nil) fun H1 e1 Q1 q1 => ⟨k, rfl, fun H2 e2 => q1 H2 e2⟩)) (fun hb H1 e1 => ?_) (fun hb H1 e1 => ?_)
    · refine Evl.s_retU (Evl.eu_tup (Evl.ea_cons (hin "take" H1 e1) (Evl.ea_cons (hin "wipe" H1 e1) Evl.ea_nil)) (by show 2 ≤ 100000; decide)) fun p H2 _ e2 h2 => q p H2 (e1.trans e2) ?_
      unfold effectM
      rw [if_pos hb]
      exact h2
    · refine Evl.s_retU (Evl.eu_tup (Evl.ea_cons (hq "take" H1 e1 (by decide +kernel)) (Evl.ea_cons (hq "wipe" H1 e1 (by decide +kernel)) Evl.ea_nil)) (by show 2 ≤ 100000; decide)) fun p H2 _ e2 h2 => q p H2 (e1.trans e2) ?_
      unfold effectM
      rw [if_neg (by rw [hb]; decide)]
      exact h2
end
end Ov


namespace Ov
open PySem PySem.Spec PyProof.Rows L2
open Evl (pss_cut tCut Ex Ev EvT EvL EvA EvU)
/-! ### acting: the rule that is done -/
theorem rv_kd {K : PySem.W.Frag} {w : World} {H : Hp} {a : Addr} {z : Str} {v : V} (h : KDct K w a z v) : Evl.RV (rIxD K w) (.ref a) (.str z) H v := fun H1 _ _ q => ⟨a, z, v, rfl, rfl, h, q H1 (Ex.refl H1)⟩
theorem ev_starts {K : PySem.W.Frag} {σ : L2.St} {H : Hp} {ta tb : TE} {x y : Str} (ha : Ev ta σ H (.str x)) (hb : Ev tb σ H (.str y)) : Ev (tBM K "str" (fun x xs H Q => ∃ a b, x = .str a ∧ xs = [.str b] ∧ Q (.bl (Txt.startswith a b)) H) ta (tCons tb tNil)) σ H (.bl (Txt.startswith x y)) := fun H1 e Q q =>
  ha H1 e _ fun H2 e2 => ⟨rfl, hb H2 (e.trans e2) _ fun H3 e3 => ⟨_, _, rfl, rfl, q H3 (e2.trans e3)⟩⟩
theorem ne_bl (a b : Bool) : (!decide (V.bl a = V.bl b)) = (a != b) := by cases a <;> cases b <;> rfl
theorem eq_str (a b : Str) : decide (V.str a = V.str b) = decide (a = b) := by
  by_cases h : a = b
  · rw [h, decide_eq_true rfl, decide_eq_true rfl]
  · rw [decide_eq_false h, decide_eq_false fun z => h (V.str.inj z)]
theorem fi_some {α : Type} {p : α → Bool} : ∀ {l : List α} {i : Nat} {x : α}, (∀ (j : Nat) (y : α), j < i → l[j]? = some y → p y = false) → l[i]? = some x → p x = true → l.findIdx? p = some i
  | [], _, _, _, h, _ => by cases h
  | y :: l, 0, x, _, h, hp => by
    obtain rfl := Option.some.inj h
    rw [List.findIdx?_cons, hp]
    rfl
  | y :: l, i + 1, x, hn, h, hp => by
    have h0 := hn 0 y (Nat.succ_pos _) rfl
    rw [List.findIdx?_cons, h0, fi_some (fun j z hj hz => hn (j + 1) z (Nat.succ_lt_succ hj) hz) h hp]
    rfl
theorem fi_none {α : Type} {p : α → Bool} : ∀ {l : List α}, (∀ (j : Nat) (y : α), l[j]? = some y → p y = false) → l.findIdx? p = none
  | [], _ => rfl
  | y :: l, hn => by
    rw [List.findIdx?_cons, hn 0 y rfl, fi_none fun j z hz => hn (j + 1) z hz]
    rfl
theorem fi_lt {α : Type} {p : α → Bool} {l : List α} {i : Nat} (h : l.findIdx? p = some i) : i < l.length := (List.findIdx?_eq_some_iff_getElem.mp h).1
def spHolds : Sp := fun vs H Q _ => ∃ t tw to : Str, vs = [.str t, .str tw, .str to] ∧ t ∈ testsL ++ testsL.map (("not " : Str) ++ ·) ∧ ∀ H', Ex H H' → Q (.bl (holdsM t tw to)) H'
def spLetterRule (K : PySem.W.Frag) (CR CP : Addr) : Sp := fun vs H Q _ => ∃ (p : Addr) (k tw to : Str) (ks : List Str) (rs : List RuleD), vs = [.ref p, .str k, .str tw, .str to] ∧ PlanIs K CR CP ks rs p H ∧ k ∈ letterKinds ∧ (∀ r ∈ rs, r.Good) ∧ rs.length ≤ 1000 ∧ ∀ H', Ex H H' → Q (ov (letterRuleM rs k tw to)) H'
def spAnswerRule (K : PySem.W.Frag) (CR CP : Addr) : Sp := fun vs H Q _ => ∃ (p : Addr) (lv : Bool) (ks : List Str) (rs : List RuleD), vs = [.ref p, .bl lv] ∧ PlanIs K CR CP ks rs p H ∧ (∀ r ∈ rs, r.Good) ∧ rs.length ≤ 1000 ∧ ∀ H', Ex H H' → Q (ov (answerRuleM rs lv)) H'
section
variable {P : Program} {w : World} {K : PySem.W.Frag} {mg : Str → Option Value} {base : Heap} {a_LETTERS a_LETTER_TESTS a_LETTER_DEEDS a_ANSWER_TESTS a_ANSWER_DEEDS CR CP a_HOLDS : Addr} {tA tN : Tok}
theorem scHolds : FnScope ["test", "to_whole", "to_own", "word", "_", "part", "plainly"] ["test", "to_whole", "to_own"] (defScope sHolds) := ⟨rfl, rfl, rfl, by decide +kernel, rfl, by decide +kernel, by decide +kernel⟩
theorem scLetterRule : FnScope ["plan", "kind", "to_whole", "to_own", "at", "rule", "test"] ["plan", "kind", "to_whole", "to_own"] (defScope sLetterRule) := ⟨rfl, rfl, rfl, by decide +kernel, rfl, by decide +kernel, by decide +kernel⟩
theorem scAnswerRule : FnScope ["plan", "level", "at", "rule", "test"] ["plan", "level"] (defScope sAnswerRule) := ⟨rfl, rfl, rfl, by decide +kernel, rfl, by decide +kernel, by decide +kernel⟩
theorem ok_holds {f : Addr} {fd : FuncData} (F : Fun K "holds" "holds" sHolds f fd) (T : TxR K mg a_LETTERS a_LETTER_TESTS a_LETTER_DEEDS a_ANSWER_TESTS a_ANSWER_DEEDS CR tA tN) (TW : TxW K w mg a_HOLDS) : FnOk P w K mg base CX0 1 f fd ["test", "to_whole", "to_own"] spHolds := by
  refine F.ok scHolds (fun vs H Q E h => ?_) (fun cdv A outer s H vs Q E hr h => ?_)
  · obtain ⟨t, tw, to, rfl, _⟩ := h
    rfl
  · obtain ⟨t, tw, to, rfl, ht, q⟩ := h
    refine ⟨_, pss_cons (ps_asg (pe_rpartition (pe_bm PySem.F.plainAttrs_str PySem.F.slot_str_removeprefix PySem.F.type_str_removeprefix mt_removeprefix (pv 0) (pa_cons (pe_glob (v := .str "not ") rfl T.g_NOT ⟨_, rfl⟩) pa_nil)) pe_str) (pg_tup (by rfl) (pgs_cons (pg_name (i := 3) scHolds.nd rfl (Or.inl rfl)) (pgs_cons (pg_name (i := 4) scHolds.nd rfl (Or.inl rfl)) (pgs_cons (pg_name (i := 5) scHolds.nd rfl (Or.inl rfl)) pgs_nil)))))
      (pss_cons (ps_set (i := 6) scHolds.nd rfl (.inl rfl) (pe_cmpR op_in_seq (pe_ifExp (pt_cmpR op_eq (pv 5) pe_str (nomark _)) (pv 1) (pv 2)) (pe_ix ix_kdict (pe_glob (v := .ref a_HOLDS) rfl TW.g_HOLDS rfl) (pv 3) (fun _ _ => rfl)) (by rfl)))
      (pss_one (ps_ret (pe_cmpR op_ne (pv 6) (pe_bm PySem.F.plainAttrs_str PySem.F.slot_str_startswith PySem.F.type_str_startswith mt_startswith (pv 0) (pa_cons (pe_glob (v := .str "not ") rfl T.g_NOT ⟨_, rfl⟩) pa_nil)) (nomark _))))), ?_⟩
    have l1 : ∀ t ∈ testsL ++ testsL.map (("not " : Str) ++ ·), t.length ≤ 16 ∧ (Txt.removeprefix t "not ").length ≤ 16 := by decide +kernel
    obtain ⟨l, hl⟩ := held_word ht
    obtain ⟨q0, hk, hs⟩ := TW.s_HOLDS _ _ hl
    refine ⟨_, rfl, rfl, _, _, rfl, rfl, size_of (by have := (l1 t ht).1; omega), ⟨_, rfl⟩, _, _, rfl, rfl, by decide +kernel, size_of (by have := (l1 t ht).2; omega), fun p np => ⟨p, _, rfl, Evl.st_of upd_same, rfl, _, _, rfl, _, _, rfl, _, _, rfl, rfl, ?_⟩⟩
    have e1 : Ex H (upd H p (.tup [.str (lastWord t).1, .str (lastWord t).2.1, .str (lastWord t).2.2])) := Ex.new np
    refine Evl.q_asg (v := .bl (decide ((if (lastWord t).2.2 = ("whole" : Str) then tw else to) ∈ l))) (Evl.ev_is (Evl.ev_op (x := .str (if (lastWord t).2.2 = ("whole" : Str) then tw else to)) (Evl.ev_if (b := decide ((lastWord t).2.2 = ("whole" : Str))) (Evl.et_is (Evl.et_test (Evl.ev_op (Evl.ev_var rfl) Evl.ev_c (Evl.rv_eq rfl))) (eq_str _ _)) (fun h => ?_) (fun h => ?_)) (Evl.ev_op Evl.ev_c (Evl.ev_var rfl) (rv_kd hk)) (Evl.rv_isT (hs _) rfl (flat_strs _))) (by rw [inV_strs])) fun H2 e2 => ?_
    · rw [if_pos (of_decide_eq_true h)]
      exact Evl.ev_var rfl
    · rw [if_neg (of_decide_eq_false h)]
      exact Evl.ev_var rfl
    · refine Evl.s_ret (v := .bl (holdsM t tw to)) (Evl.ev_is (Evl.ev_op (Evl.ev_var rfl) (ev_starts (Evl.ev_var rfl) Evl.ev_c) (Evl.rv_ne rfl)) ?_) fun H3 e3 => q H3 ((e1.trans e2).trans e3)
      rw [ne_bl]
      unfold holdsM
      rw [hl]
      rfl
theorem ok_letter_rule {f fH : Addr} {fd fdH : FuncData} (F : Fun K "letter_rule" "letter_rule" sLetterRule f fd) (T : TxR K mg a_LETTERS a_LETTER_TESTS a_LETTER_DEEDS a_ANSWER_TESTS a_ANSWER_DEEDS CR tA tN) (TW : TxW K w mg a_HOLDS) (TP : TxP K mg CP) (D_holds : Df K mg "holds" sHolds ["test", "to_whole", "to_own"] fH fdH) :
    FnOk P w K mg base CX0 2 f fd ["plan", "kind", "to_whole", "to_own"] (spLetterRule K CR CP) := by
  have G_holds : FnOk P w K mg base CX0 1 fH fdH ["test", "to_whole", "to_own"] spHolds := ok_holds D_holds.F T TW
  refine F.ok scLetterRule (fun vs H Q E h => ?_) (fun cdv A outer s H vs Q E hr h => ?_)
  · obtain ⟨p, k, tw, to, ks, rs, rfl, _⟩ := h
    rfl
  · obtain ⟨p, k, tw, to, ks, rs, rfl, ⟨xs, ⟨dx, a, b, h1, h2, h3⟩, hR⟩, hk, hg, hz, q⟩ := h
    refine ⟨_, pss_cut (ps_for PassesOwn.never rfl (pi_enumT (by rfl) TW.n_enumerate (pa_cons (pe_fld (pv 0) rfl) pa_nil)) (pg_tup (by rfl) (pgs_cons (pg_name (i := 4) scLetterRule.nd rfl (Or.inl rfl)) (pgs_cons (pg_name (i := 5) scLetterRule.nd rfl (Or.inl rfl)) pgs_nil))) (pss_one (ps_if (PW.pt (pw_and (pt_cmpR op_eq (pe_fld (pv 5) rfl) (pv 1) (nomark _)) (pw_and1 (pt_val (pe_callB (cr_all rfl) (by rfl) T.n_all (by decide +kernel) (pa_cons (pe_lc (own := [("test", 6)]) (g := gName 6) (tt := tYes) rfl scLetterRule.nd (pi_tup (pe_fld (pv 5) rfl)) (blkOk_by (own := [("test", 6)]) (N := ["plan", "kind", "to_whole", "to_own", "at", "rule", "test"]) (sc := defScope sLetterRule) (by decide +kernel)) (fun _ _ _ _ _ => (pg_name (i := 6) scLetterRule.nd rfl (Or.inl rfl))) (fun _ _ _ _ _ => pts_nil) (fun _ _ _ _ _ => (pe_call G_holds (hr.mono (by decide)) rfl D_holds.g D_holds.F.kp D_holds.b .nil pass0 (pa_cons (pv 6) (pa_cons (pv 2) (pa_cons (pv 3) pa_nil)))))) pa_nil)))))) (pss_one (ps_ret (pv 4))) pss_nil)))
      (pss_one (ps_ret pe_non)), ?_⟩
    let ok : RuleD → Bool := fun r => decide (r.k = k) && r.ts.all fun t => holdsM t tw to
    refine Evl.q_cut (M := fun _ H' => Ex H H' ∧ ∀ (j : Nat) (y : RuleD), rs[j]? = some y → ok y = false) ?_ (fun σ' H' ⟨e1, hn⟩ => ?_)
    · refine ⟨_, rfl, p, CP, dx, _, _, rfl, h1, TP.cl, TP.nU, pf_rules _ _, b, xs, rfl, h3, for_it (walk_enumT (xs := xs)) (fun i σ H' => ∃ x4 x5 x6 : Option V, σ = [some (.ref p), some (.str k), some (.str tw), some (.str to), x4, x5, x6] ∧ Ex H H' ∧ ∀ (j : Nat) (y : RuleD), j < i → rs[j]? = some y → ok y = false) ⟨_, _, _, rfl, Ex.refl H, fun j y hj => absurd hj (Nat.not_lt_zero _)⟩ ?_ ?_ ?_⟩
      · rintro i σ H' _ ⟨_, _, _, _, e, _⟩
        exact Evl.ex_t e h3
      · rintro i x σ H1 H2 hi ⟨x4, x5, x6, rfl, e1, hn⟩ ⟨T0, _, y, rfl, nT, rfl, hc, hy⟩
        obtain rfl := Option.some.inj hc
        have hi2 : i < rs.length := by rw [← paired_len hR]; exact hi
        obtain ⟨u, r, hu, hr2, ho⟩ := rule_deeds hR hi2
        replace hy : xs[i]? = some y := hy
        rw [hu] at hy
        obtain rfl := Option.some.inj hy
        have e2 := e1.trans (Ex.new (o := .tup [.int (i : Int), .ref u]) nT)
        have gr := hg r (List.mem_of_getElem? hr2)
        refine ⟨T0, _, rfl, Evl.st_of upd_same, rfl, _, _, rfl, _, _, rfl, rfl, ?_⟩
        have ho2 := ho.ex e2
        refine Evl.s_when (b := ok r) (Evl.et_and (a := decide (r.k = k)) (Evl.et_is (Evl.et_test (Evl.ev_op (ev_fk (T := T.cl) (r := r) T.nK (Evl.ev_var rfl) ho2) (Evl.ev_var rfl) (Evl.rv_eq rfl))) (eq_str _ _)) fun hb => Evl.et_B (Evl.ev_is (ev_all (bs := r.ts.map fun t => holdsM t tw to) ?_) ?_)) (fun hb H3 e3 => ?_) (fun hb H3 e3 => ?_)
        · obtain ⟨dr, t, d, o1, o2, o3⟩ := id ho2
          have hts : ∀ t ∈ r.ts, t ∈ testsL ++ testsL.map (("not " : Str) ++ ·) := fun t ht => letter_test (k := r.k) (by rw [of_decide_eq_true hb]; exact hk) (gr.ts t ht)
          have e0 : (r.ts.map fun t => holdsM t tw to).map V.bl = (List.range (r.ts.map V.str).length).map fun i => V.bl (holdsM ((r.ts[i]?).getD "") tw to) := by
            rw [List.map_map]
            symm
            rw [range_map (r.ts.map V.str) (fun x => match x with | .str z => V.bl (holdsM z tw to) | _ => .non) _ fun i x hx => ?_, List.map_map]
            · rfl
            · obtain ⟨z, rfl, hz⟩ := strs_at hx
              rw [hz]
              rfl
          rw [e0]
          refine el_lcT _ (ev_fld (Evl.ev_var rfl) o1 T.cl T.nT (rf_t _ _ _)) o2 (by rw [List.length_map]; have := gr.nt; omega) (fun _ => rfl) (fun i x H4 e4 hi => ?_)
          obtain ⟨z, rfl, hz⟩ := strs_at hi
          rw [hz]
          exact ev_call (Evl.ea_cons (Evl.ev_var rfl) (Evl.ea_cons (Evl.ev_var rfl) (Evl.ea_cons (Evl.ev_var rfl) Evl.ea_nil))) fun H5 e5 Q5 q5 => ⟨z, tw, to, rfl, hts z (List.mem_of_getElem? hz), fun H6 e6 => q5 H6 e6⟩
        · rw [List.all_map]
          rfl
        · refine Evl.s_ret (v := .int (i : Int)) (Evl.ev_var rfl) fun H4 e4 => ?_
          have e : letterRuleM rs k tw to = some i := fi_some hn hr2 hb
          have q2 := q H4 ((e2.trans e3).trans e4)
          rw [e] at q2
          exact q2
        · refine ⟨_, _, _, rfl, e2.trans e3, fun j y hj hy => ?_⟩
          rcases Nat.lt_succ_iff_lt_or_eq.mp hj with h | h
          · exact hn j y h hy
          · rw [h, hr2] at hy
            rw [← Option.some.inj hy]
            exact hb
      · rintro σ H' ⟨_, _, _, rfl, e, hn⟩
        refine ⟨e, fun j y hy => hn j y ?_ hy⟩
        rw [paired_len hR]
        exact (List.getElem?_eq_some_iff.mp hy).1
    · refine Evl.s_ret (v := .non) Evl.ev_c fun H2 e2 => ?_
      have e : letterRuleM rs k tw to = none := fi_none hn
      have q2 := q H2 (e1.trans e2)
      rw [e] at q2
      exact q2
theorem ok_answer_rule {f : Addr} {fd : FuncData} (F : Fun K "answer_rule" "answer_rule" sAnswerRule f fd) (T : TxR K mg a_LETTERS a_LETTER_TESTS a_LETTER_DEEDS a_ANSWER_TESTS a_ANSWER_DEEDS CR tA tN) (TW : TxW K w mg a_HOLDS) (TP : TxP K mg CP) :
    FnOk P w K mg base CX0 1 f fd ["plan", "level"] (spAnswerRule K CR CP) := by
  refine F.ok scAnswerRule (fun vs H Q E h => ?_) (fun cdv A outer s H vs Q E hr h => ?_)
  · obtain ⟨p, lv, ks, rs, rfl, _⟩ := h
    rfl
  · obtain ⟨p, lv, ks, rs, rfl, ⟨xs, ⟨dx, a, b, h1, h2, h3⟩, hR⟩, hg, hz, q⟩ := h
    refine ⟨_, pss_cut (ps_for PassesOwn.never rfl (pi_enumT (by rfl) TW.n_enumerate (pa_cons (pe_fld (pv 0) rfl) pa_nil)) (pg_tup (by rfl) (pgs_cons (pg_name (i := 2) scAnswerRule.nd rfl (Or.inl rfl)) (pgs_cons (pg_name (i := 3) scAnswerRule.nd rfl (Or.inl rfl)) pgs_nil))) (pss_one (ps_if (PW.pt (pw_and (pt_cmpR op_eq (pe_fld (pv 3) rfl) (pe_glob (v := .str "answer") rfl T.g_ANSWER ⟨_, rfl⟩) (nomark _)) (pw_and1 (pt_val (pe_callB (cr_all rfl) (by rfl) T.n_all (by decide +kernel) (pa_cons (pe_lc (own := [("test", 4)]) (g := gName 4) (tt := tYes) (te := tOp rNe (tVar 1) (tBM K "str" (fun x xs H Q => ∃ a b, x = .str a ∧ xs = [.str b] ∧ Q (.bl (Txt.startswith a b)) H) (tVar 4) (tCons (tC (.str "not ")) tNil))) rfl scAnswerRule.nd (pi_tup (pe_fld (pv 3) rfl)) (blkOk_by (own := [("test", 4)]) (N := ["plan", "level", "at", "rule", "test"]) (sc := defScope sAnswerRule) (by decide +kernel)) (fun _ _ _ _ _ => (pg_name (i := 4) scAnswerRule.nd rfl (Or.inl rfl))) (fun _ _ _ _ _ => pts_nil) (fun _ _ _ _ _ => (pe_cmpR op_ne (pv 1) (pe_bm PySem.F.plainAttrs_str PySem.F.slot_str_startswith PySem.F.type_str_startswith mt_startswith (pv 4) (pa_cons (pe_glob (v := .str "not ") rfl T.g_NOT ⟨_, rfl⟩) pa_nil)) (nomark _)))) pa_nil)))))) (pss_one (ps_ret (pv 2))) pss_nil)))
      (pss_one (ps_ret pe_non)), ?_⟩
    let ok : RuleD → Bool := fun r => decide (r.k = ("answer" : Str)) && r.ts.all fun t => lv != Txt.startswith t "not "
    refine Evl.q_cut (M := fun _ H' => Ex H H' ∧ ∀ (j : Nat) (y : RuleD), rs[j]? = some y → ok y = false) ?_ (fun σ' H' ⟨e1, hn⟩ => ?_)
    · refine ⟨_, rfl, p, CP, dx, _, _, rfl, h1, TP.cl, TP.nU, pf_rules _ _, b, xs, rfl, h3, for_it (walk_enumT (xs := xs)) (fun i σ H' => ∃ x2 x3 x4 : Option V, σ = [some (.ref p), some (.bl lv), x2, x3, x4] ∧ Ex H H' ∧ ∀ (j : Nat) (y : RuleD), j < i → rs[j]? = some y → ok y = false) ⟨_, _, _, rfl, Ex.refl H, fun j y hj => absurd hj (Nat.not_lt_zero _)⟩ ?_ ?_ ?_⟩
      · rintro i σ H' _ ⟨_, _, _, _, e, _⟩
        exact Evl.ex_t e h3
      · rintro i x σ H1 H2 hi ⟨x4, x5, x6, rfl, e1, hn⟩ ⟨T0, _, y, rfl, nT, rfl, hc, hy⟩
        obtain rfl := Option.some.inj hc
        have hi2 : i < rs.length := by rw [← paired_len hR]; exact hi
        obtain ⟨u, r, hu, hr2, ho⟩ := rule_deeds hR hi2
        replace hy : xs[i]? = some y := hy
        rw [hu] at hy
        obtain rfl := Option.some.inj hy
        have e2 := e1.trans (Ex.new (o := .tup [.int (i : Int), .ref u]) nT)
        have gr := hg r (List.mem_of_getElem? hr2)
        refine ⟨T0, _, rfl, Evl.st_of upd_same, rfl, _, _, rfl, _, _, rfl, rfl, ?_⟩
        have ho2 := ho.ex e2
        refine Evl.s_when (b := ok r) (Evl.et_and (a := decide (r.k = ("answer" : Str))) (Evl.et_is (Evl.et_test (Evl.ev_op (ev_fk (T := T.cl) (r := r) T.nK (Evl.ev_var rfl) ho2) Evl.ev_c (Evl.rv_eq rfl))) (eq_str _ _)) fun hb => Evl.et_B (Evl.ev_is (ev_all (bs := r.ts.map fun t => lv != Txt.startswith t "not ") ?_) ?_)) (fun hb H3 e3 => ?_) (fun hb H3 e3 => ?_)
        · obtain ⟨dr, t, d, o1, o2, o3⟩ := id ho2
          have e0 : (r.ts.map fun t => lv != Txt.startswith t "not ").map V.bl = (List.range (r.ts.map V.str).length).map fun i => V.bl (lv != Txt.startswith ((r.ts[i]?).getD "") "not ") := by
            rw [List.map_map]
            symm
            rw [range_map (r.ts.map V.str) (fun x => match x with | .str z => V.bl (lv != Txt.startswith z "not ") | _ => .non) _ fun i x hx => ?_, List.map_map]
            · rfl
            · obtain ⟨z, rfl, hz⟩ := strs_at hx
              rw [hz]
              rfl
          rw [e0]
          refine el_lcT _ (ev_fld (Evl.ev_var rfl) o1 T.cl T.nT (rf_t _ _ _)) o2 (by rw [List.length_map]; have := gr.nt; omega) (fun _ => rfl) (fun i x H4 e4 hi => ?_)
          obtain ⟨z, rfl, hz⟩ := strs_at hi
          rw [hz]
          exact Evl.ev_is (Evl.ev_op (Evl.ev_var rfl) (ev_starts (Evl.ev_var rfl) Evl.ev_c) (Evl.rv_ne rfl)) (congrArg V.bl (ne_bl _ _))
        · rw [List.all_map]
          rfl
        · refine Evl.s_ret (v := .int (i : Int)) (Evl.ev_var rfl) fun H4 e4 => ?_
          have e : answerRuleM rs lv = some i := fi_some hn hr2 hb
          have q2 := q H4 ((e2.trans e3).trans e4)
          rw [e] at q2
          exact q2
        · refine ⟨_, _, _, rfl, e2.trans e3, fun j y hj hy => ?_⟩
          rcases Nat.lt_succ_iff_lt_or_eq.mp hj with h | h
          · exact hn j y h hy
          · rw [h, hr2] at hy
            rw [← Option.some.inj hy]
            exact hb
      · rintro σ H' ⟨_, _, _, rfl, e, hn⟩
        refine ⟨e, fun j y hy => hn j y ?_ hy⟩
        rw [paired_len hR]
        exact (List.getElem?_eq_some_iff.mp hy).1
    · refine Evl.s_ret (v := .non) Evl.ev_c fun H2 e2 => ?_
      have e : answerRuleM rs lv = none := fi_none hn
      have q2 := q H2 (e1.trans e2)
      rw [e] at q2
      exact q2
end
end Ov


namespace Ov
open PySem PySem.Spec PyProof.Rows L2
open Evl (pss_cut tCut Ex Ev EvT EvL EvA EvU)
/-! ### a place told by a text -/
def strI (n : Nat) : Str := toString (n : Int)
def readPlaceM (z word : Str) (many : Nat) : Option Nat :=
  if Txt.startswith z word = true then
    (if decide ((Txt.removeprefix z word).length > (strI many).length) || !Txt.isdecimal (Txt.removeprefix z word) then none
     else match PySem.intText? (Txt.removeprefix z word) with
      | some n => if decide (n < (many : Int)) && decide ((toString n : Str) = Txt.removeprefix z word) then some n.toNat else none
      | none => none)
  else none
/-- what is behind the word can be read, if it is of digits -/
def WordOk (z word : Str) : Prop := Txt.isdecimal (Txt.removeprefix z word) = true → ∃ n : Nat, PySem.intText? (Txt.removeprefix z word) = some (n : Int) ∧ n < 2 ^ 1000
structure EvOk (z : Str) : Prop where
  len : z.length ≤ 600
  lc : (Txt.removeprefix z "come ").length ≤ 600
  lh : (Txt.removeprefix z "heard ").length ≤ 600
  c : WordOk z "come "
  h : WordOk z "heard "
theorem readPlace_lt {z word : Str} {many i : Nat} (h : readPlaceM z word many = some i) (o : WordOk z word) : i < many := by
  unfold readPlaceM at h
  split at h
  · split at h
    · cases h
    · rename_i hd
      have hdec : Txt.isdecimal (Txt.removeprefix z word) = true := by
        simp only [Bool.or_eq_true, not_or, Bool.not_eq_true', Bool.not_eq_false'] at hd
        simpa using hd.2
      obtain ⟨n, hn, _⟩ := o hdec
      rw [hn] at h
      simp only [Bool.and_eq_true, decide_eq_true_eq] at h
      split at h
      · rename_i hc
        have := Option.some.inj h
        omega
      · cases h
  · cases h
def spReadPlace : Sp := fun vs H Q _ => ∃ (z word : Str) (many : Nat), vs = [.str z, .str word, .int (many : Int)] ∧ z.length ≤ 600 ∧ (Txt.removeprefix z word).length ≤ 600 ∧ WordOk z word ∧ many ≤ 1000 ∧ ∀ H', Ex H H' → Q (ov (readPlaceM z word many)) H'
theorem ev_lenS {σ : L2.St} {H : Hp} {ta : TE} {z : Str} (h : Ev ta σ H (.str z)) (hz : z.length ≤ 100000) : Ev (tCB (fun xs H Q => ∃ z, xs = [V.str z] ∧ z.length ≤ sizeLine ∧ Q (V.int z.length) H) (tCons ta tNil)) σ H (.int (z.length : Int)) := fun H1 e1 Q q =>
  h H1 e1 _ fun H2 e2 => ⟨z, rfl, size_of hz, q H2 e2⟩
theorem ev_strInt {σ : L2.St} {H : Hp} {ta : TE} {n : Int} (h : Ev ta σ H (.int n)) (hn : n.natAbs.log2 < 1920) : Ev (tCB (fun xs H Q => ∃ i, xs = [V.int i] ∧ i.natAbs.log2 < 1920 ∧ Q (V.str (toString i)) H) (tCons ta tNil)) σ H (.str (toString n)) := fun H1 e1 Q q =>
  h H1 e1 _ fun H2 e2 => ⟨n, rfl, hn, q H2 e2⟩
theorem strI_len {n : Nat} (h : n ≤ 1000) : (strI n).length ≤ 10 := by
  have a : ∀ n < 1001, (strI n).length ≤ 10 := by decide +kernel
  exact a n (Nat.lt_succ_of_le h)
theorem log_small {n k : Nat} (h : n < 2 ^ k) (hk : 0 < k) : n.log2 < k := by
  by_cases h0 : n = 0
  · rw [h0]
    simpa using hk
  · exact (Nat.log2_lt h0).mpr h
section
variable {P : Program} {w : World} {K : PySem.W.Frag} {mg : Str → Option Value} {base : Heap} {a_LETTERS a_LETTER_TESTS a_LETTER_DEEDS a_ANSWER_TESTS a_ANSWER_DEEDS CR : Addr} {tA tN : Tok}
theorem scReadPlace : FnScope ["value", "word", "many", "digits", "place"] ["value", "word", "many"] (defScope sReadPlace) := ⟨rfl, rfl, rfl, by decide +kernel, rfl, by decide +kernel, by decide +kernel⟩
theorem ok_read_place {f : Addr} {fd : FuncData} (F : Fun K "read_place" "read_place" sReadPlace f fd) (T : TxR K mg a_LETTERS a_LETTER_TESTS a_LETTER_DEEDS a_ANSWER_TESTS a_ANSWER_DEEDS CR tA tN) : FnOk P w K mg base CX0 1 f fd ["value", "word", "many"] spReadPlace := by
  refine F.ok scReadPlace (fun vs H Q E h => ?_) (fun cdv A outer s H vs Q E hr h => ?_)
  · obtain ⟨z, word, many, rfl, _⟩ := h
    rfl
  · obtain ⟨z, word, many, rfl, hz, hl, ho, hm, q⟩ := h
    refine ⟨_, pss_cons (ps_if (PW.pt (pw_or (pt_not (pt_val (pe_callB call_isi (by rfl) T.n_isinstance (by decide +kernel) (pa_cons (pv 0) (pa_cons (pe_bltn (v := .ty "str") (by rfl) T.n_str (by decide +kernel) rfl) pa_nil))))) (pw_or1 (pt_not (pt_val (pe_bm PySem.F.plainAttrs_str PySem.F.slot_str_startswith PySem.F.type_str_startswith mt_startswith (pv 0) (pa_cons (pv 1) pa_nil))))))) (pss_one (ps_ret pe_non)) pss_nil)
      (pss_cons (ps_set (i := 3) scReadPlace.nd rfl (.inl rfl) (pe_bm PySem.F.plainAttrs_str PySem.F.slot_str_removeprefix PySem.F.type_str_removeprefix mt_removeprefix (pv 0) (pa_cons (pv 1) pa_nil)))
      (pss_cons (ps_if (PW.pt (pw_or (pt_cmpR op_gt (pe_callB call_len_str (by rfl) T.n_len (by decide +kernel) (pa_cons (pv 3) pa_nil)) (pe_callB call_len_str (by rfl) T.n_len (by decide +kernel) (pa_cons (pe_callTy call_str_int (by rfl) T.n_str (by decide +kernel) (pa_cons (pv 2) pa_nil)) pa_nil)) (nomark _)) (pw_or1 (pt_not (pt_val (pe_bm0 PySem.F.plainAttrs_str PySem.F.slot_str_isdecimal PySem.F.type_str_isdecimal mt_isdecimal (pv 3))))))) (pss_one (ps_ret pe_non)) pss_nil)
      (pss_cons (ps_set (i := 4) scReadPlace.nd rfl (.inl rfl) (pe_callTy call_int_str (by rfl) T.n_int (by decide +kernel) (pa_cons (pv 3) pa_nil)))
      (pss_one (ps_ret (pe_ifExp (PW.pt (pw_and (pt_cmpR op_lt (pv 4) (pv 2) (nomark _)) (pw_and1 (pt_cmpR op_eq (pe_callTy call_str_int (by rfl) T.n_str (by decide +kernel) (pa_cons (pv 4) pa_nil)) (pv 3) (nomark _))))) (pv 4) pe_non)))))), ?_⟩
    refine Evl.q_when (b := !Txt.startswith z word) (Evl.et_is (Evl.et_or (a := false) (Evl.et_not (a := true) (Evl.et_B (ev_isi (Evl.ea_cons (Evl.ev_var rfl) (Evl.ea_cons Evl.ev_c Evl.ea_nil)) (.ty _) (fun _ _ => .base (.str _)) (kit_ty (by decide +kernel))))) (fun _ => Evl.et_not (Evl.et_B (ev_starts (Evl.ev_var rfl) (Evl.ev_var rfl))))) rfl) (fun hb H1 e1 => ?_) (fun hb H1 e1 => ?_)
    · refine Evl.s_ret (v := .non) Evl.ev_c fun H2 e2 => ?_
      have e : readPlaceM z word many = none := by
        unfold readPlaceM
        rw [if_neg (by simpa using hb)]
      have q2 := q H2 (e1.trans e2)
      rw [e] at q2
      exact q2
    · have hs : Txt.startswith z word = true := by simpa using hb
      refine Evl.q_asg (v := .str (Txt.removeprefix z word)) (fun H2 e2 Q2 q2 => ⟨_, rfl, rfl, _, rfl, _, _, rfl, rfl, size_of (by omega), q2 H2 (Ex.refl _)⟩) fun H2 e2 => ?_
      have lm : ((many : Int)).natAbs.log2 < 1920 := Nat.lt_of_lt_of_le (log_small (k := 20) (by simp; omega) (by decide)) (by decide)
      have ls := strI_len hm
      refine Evl.q_when (b := decide ((Txt.removeprefix z word).length > (strI many).length) || !Txt.isdecimal (Txt.removeprefix z word)) (Evl.et_or (Evl.et_is (Evl.et_test (Evl.ev_op (ev_lenS (Evl.ev_var rfl) (by omega)) (ev_lenS (z := strI many) (ev_strInt (Evl.ev_var rfl) lm) (by omega)) Evl.rv_I0)) (decide_eq_decide.mpr ⟨fun h => by omega, fun h => by omega⟩)) (fun _ => Evl.et_not (Evl.et_B (b := Txt.isdecimal (Txt.removeprefix z word)) (fun H3 e3 Q3 q3 => ⟨_, rfl, rfl, _, rfl, rfl, trivial, q3 H3 (Ex.refl _)⟩)))) (fun hb H3 e3 => ?_) (fun hb H3 e3 => ?_)
      · refine Evl.s_ret (v := .non) Evl.ev_c fun H4 e4 => ?_
        have e : readPlaceM z word many = none := by
          unfold readPlaceM
          rw [if_pos hs, if_pos hb]
        have q2 := q H4 (((e1.trans e2).trans e3).trans e4)
        rw [e] at q2
        exact q2
      · have hdec : Txt.isdecimal (Txt.removeprefix z word) = true := by
          simp only [Bool.or_eq_false_iff, Bool.not_eq_false'] at hb
          exact hb.2
        obtain ⟨n, hn, hn2⟩ := ho hdec
        refine Evl.q_asg (v := .int (n : Int)) (fun H4 e4 Q4 q4 => ⟨_, rfl, _, (n : Int), rfl, hn, by omega, q4 H4 (Ex.refl _)⟩) fun H4 e4 => ?_
        have ln : ((n : Int)).natAbs.log2 < 1920 := Nat.lt_of_lt_of_le (log_small (k := 1000) (by simpa using hn2) (by decide)) (by decide)
        have er : readPlaceM z word many = if decide ((n : Int) < (many : Int)) && decide ((toString (n : Int) : Str) = Txt.removeprefix z word) then some n else none := by
          unfold readPlaceM
          rw [if_pos hs, if_neg (by rw [hb]; decide), hn]
          rfl
        refine Evl.s_ret (v := ov (readPlaceM z word many)) (Evl.ev_if (b := decide ((n : Int) < (many : Int)) && decide ((toString (n : Int) : Str) = Txt.removeprefix z word)) (Evl.et_and (Evl.et_test (Evl.ev_op (Evl.ev_var rfl) (Evl.ev_var rfl) Evl.rv_I0)) (fun _ => Evl.et_is (Evl.et_test (Evl.ev_op (ev_strInt (Evl.ev_var rfl) ln) (Evl.ev_var rfl) (Evl.rv_eq rfl))) (eq_str _ _))) (fun h => ?_) (fun h => ?_)) fun H5 e5 => q H5 ((((e1.trans e2).trans e3).trans e4).trans e5)
        · rw [er, if_pos h]
          exact Evl.ev_var rfl
        · rw [er, if_neg (by rw [h]; decide)]
          exact Evl.ev_c
end
end Ov


namespace Ov
open PySem PySem.Spec PyProof.Rows L2
open Evl (pss_cut tCut Ex Ev EvT EvL EvA EvU)
/-! ### how far a weaving has gone, as data -/
structure CM where
  ks : List Str
  rs : List RuleD
  letters : List (Str × Int)
  newest : Nat
  whole : Option Nat
  own : Option Nat
  came : List Nat
  shown : List Nat
  off : Option Nat
  answers : List Nat
  counted : Option Nat
  shows : List (Option Nat)
  rules : List (Option Nat)
  goals : List Str
namespace CM
def start (ks : List Str) (rs : List RuleD) : CM := ⟨ks, rs, [("ask", 0)], 0, none, none, [], [], none, [], none, [none], [], []⟩
def kindAt (m : CM) (i : Nat) : Str := ((m.letters[i]?).map Prod.fst).getD ""
def numAt (m : CM) (i : Nat) : Int := ((m.letters[i]?).map Prod.snd).getD 0
def lastNum (m : CM) : Int := m.numAt (m.letters.length - 1)
def showing (m : CM) : Option Nat := match m.own with
  | none => m.whole
  | some i => some i
def sentKind (d : Str) : Str := Txt.removeprefix d "other "
def sentNum (m : CM) (d : Str) : Int := m.lastNum + (if sentKind d ∈ m.ks then 1 else 0)
def send (m : CM) (d : Str) : CM :=
  if d = sentKind d then { m with newest := m.letters.length, counted := none, letters := m.letters ++ [(sentKind d, m.sentNum d)] }
  else { m with letters := m.letters ++ [(("other" : Str), m.sentNum d)] }
def rel (m : CM) (i : Nat) (p : Option Nat) : Str := relationM (m.numAt i) (i : Int) (p.map fun j => (m.numAt j, (j : Int)))
def ruleFor (m : CM) (i : Nat) : Option Nat := letterRuleM m.rs (m.kindAt i) (m.rel i m.whole) (m.rel i m.own)
def effFor (m : CM) (i : Nat) : Bool × Bool := effectM (m.kindAt i) (deedsM m.rs (m.ruleFor i))
def wiped (m : CM) (b : Bool) : CM := if b then { m with own := none } else m
def taken (m : CM) (i : Nat) (t w : Bool) : CM := if t && w then { m with whole := some i } else if t then { m with own := some i } else m
def come (m : CM) (i : Nat) : CM :=
  let e := m.effFor i
  let m2 := (m.wiped e.2).taken i e.1 (wholeKind (m.kindAt i))
  { m2 with came := m2.came ++ [i] }
def ansAt (m : CM) (a : Nat) : Nat := (m.answers[a]?).getD 0
def levelFor (m : CM) (a : Nat) : Bool := decide (m.numAt (m.ansAt a) = m.lastNum)
def ruleHear (m : CM) (a : Nat) : Option Nat := answerRuleM m.rs (m.levelFor a)
def heardCount (m : CM) (a : Nat) : Option Nat := if (deedsM m.rs (m.ruleHear a)).getLastD "" = ("count" : Str) then some a else none
def hear (m : CM) (a : Nat) : CM := if deedsM m.rs (m.ruleHear a) = [] then m else { m with counted := m.heardCount a }
def isStop (m : CM) (i : Nat) : Bool := decide (m.kindAt i ∈ (["stop", "off"] : List Str))
def isAsk (m : CM) (i : Nat) : Bool := decide (m.kindAt i ∈ (["ask", "day"] : List Str))
def overOff (m : CM) (i : Nat) : Bool := match m.off with
  | none => true
  | some o => decide (i > o)
def looked (m : CM) : CM := { m with shows := m.shows ++ [m.showing] }
def seen (m : CM) (i : Nat) : CM := { m with shown := m.shown ++ [i] }
def offed (m : CM) (i : Nat) : CM := if m.isStop i && m.overOff i then { m with off := some i } else m
def look (m : CM) : CM := match m.showing with
  | none => m.looked
  | some i => (m.looked.seen i).offed i
def isBack (m : CM) : Option Nat → Bool
  | none => false
  | some i => match m.off with
    | none => false
    | some o => m.isAsk i && decide (i < o)
def addG (m : CM) (b : Bool) (g : Str) : CM := if b then (if g ∈ m.goals then m else { m with goals := m.goals ++ [g] }) else m
def view (m : CM) : Option Nat := m.shows.getLastD none
def gElder (m : CM) : Bool := decide (m.newest ∈ m.came) && !decide (m.view = some m.newest)
def gLost (m : CM) : Bool := decide (m.kindAt m.newest = ("day" : Str)) && (decide (m.newest ∈ m.shown) && !decide (m.view = some m.newest))
def gWrong (m : CM) : Bool := match m.counted with
  | none => false
  | some a => !decide (m.ansAt a = m.newest)
def gDeaf (m : CM) (heard : Option Nat) : Bool := decide (heard = some m.newest) && decide (m.counted = none)
def judge (m : CM) (heard : Option Nat) : CM :=
  ((((m.addG m.gElder "elder").addG m.gLost "lost").addG (m.isBack m.view) "back").addG m.gWrong "wrong").addG (m.gDeaf heard) "deaf"
def toCome (m : CM) (z : Str) : Option Nat := match readPlaceM z "come " m.letters.length with
  | none => none
  | some i => if m.kindAt i = ("other" : Str) then none else some i
def canAnswer (m : CM) : Bool := match m.showing with
  | none => false
  | some i => m.isAsk i
def deedsAll : List Str := ["ask", "day", "stop", "off", "other day", "other off"]
def toHear (m : CM) (z : Str) : Option Nat := readPlaceM z "heard " m.answers.length
/-- what an event does, the rule that is done, the letter that was answered -/
def act (m : CM) (z : Str) : Option (CM × Option Nat × Option Nat) :=
  if z ∈ deedsAll then some (m.send z, none, none)
  else match m.toCome z with
    | some i => some (m.come i, m.ruleFor i, none)
    | none => match m.toHear z with
      | some a => some (m.hear a, m.ruleHear a, some (m.ansAt a))
      | none => if decide (z = ("answer" : Str)) && m.canAnswer then some ({ m with answers := m.answers ++ [m.showing.getD 0] }, none, none) else none
def ruled (m : CM) (r : Option Nat) : CM := { m with rules := m.rules ++ [r] }
def goOn (m : CM) (z : Str) : Option CM := (m.act z).map fun x => (((x.1).ruled x.2.1).look).judge x.2.2
def goAll : CM → List Str → Option CM
  | m, [] => some m
  | m, z :: r => (m.goOn z).bind fun m2 => m2.goAll r
end CM
def goalWords : List Str := ["back", "deaf", "elder", "lost", "wrong"]
/-- the numbers that it bears are places -/
structure CM.WF (m : CM) : Prop where
  ne : 0 < m.letters.length
  newest : m.newest < m.letters.length
  whole : ∀ i, m.whole = some i → i < m.letters.length
  own : ∀ i, m.own = some i → i < m.letters.length
  off : ∀ i, m.off = some i → i < m.letters.length
  ans : ∀ i ∈ m.answers, i < m.letters.length
  counted : ∀ i, m.counted = some i → i < m.answers.length
  shows : ∀ i, some i ∈ m.shows → i < m.letters.length
  sne : 0 < m.shows.length
  kinds : ∀ l ∈ m.letters, l.1 ∈ letterKinds ∨ l.1 = ("other" : Str)
  g : ∀ r ∈ m.rs, r.Good
  hz : m.rs.length ≤ 1000
  gw : ∀ x ∈ m.goals, x ∈ goalWords
  gn : m.goals.Nodup
structure CM.Small (m : CM) (b : Nat) : Prop where
  l : m.letters.length ≤ b + 1
  a : m.answers.length ≤ b
  s : m.shows.length ≤ b + 1
  r : m.rules.length ≤ b
  c : m.came.length ≤ b
  h : m.shown.length ≤ b
namespace CM
variable {m : CM}
theorem WF.start {ks : List Str} {rs : List RuleD} (g : ∀ r ∈ rs, r.Good) (hz : rs.length ≤ 1000) : (CM.start ks rs).WF where
  ne := Nat.succ_pos _
  newest := Nat.succ_pos _
  whole := fun i h => nomatch h
  own := fun i h => nomatch h
  off := fun i h => nomatch h
  ans := fun i h => nomatch h
  counted := fun i h => nomatch h
  shows := fun i h => by
    have := List.mem_singleton.mp h
    cases this
  sne := Nat.succ_pos _
  kinds := fun l h => by
    rw [List.mem_singleton.mp h]
    exact .inl (by decide +kernel)
  g := g
  hz := hz
  gw := fun x h => nomatch h
  gn := List.nodup_nil
theorem Small.start {ks : List Str} {rs : List RuleD} : (CM.start ks rs).Small 0 := ⟨Nat.le_refl _, Nat.le_refl _, Nat.le_refl _, Nat.le_refl _, Nat.le_refl _, Nat.le_refl _⟩
theorem sentKind_in {d : Str} (h : d ∈ deedsAll) : sentKind d ∈ letterKinds := by
  have a : ∀ d ∈ deedsAll, sentKind d ∈ letterKinds := by decide +kernel
  exact a d h
theorem WF.send (h : m.WF) {d : Str} (hd : d ∈ deedsAll) : (m.send d).WF := by
  have lt : ∀ {i : Nat} {x : Str × Int}, i < m.letters.length → i < (m.letters ++ [x]).length := fun h => by
    rw [List.length_append]
    exact Nat.lt_of_lt_of_le h (Nat.le_add_right _ _)
  have pos : ∀ {x : Str × Int}, m.letters.length < (m.letters ++ [x]).length := by
    intro x
    rw [List.length_append]
    exact Nat.lt_succ_self _
  unfold CM.send
  split
  · exact ⟨lt h.ne, pos, fun i e => lt (h.whole i e), fun i e => lt (h.own i e), fun i e => lt (h.off i e), fun i e => lt (h.ans i e), fun i e => (nomatch e), fun i e => lt (h.shows i e), h.sne, fun l hl => by
      rcases List.mem_append.mp hl with z | z
      · exact h.kinds l z
      · rw [List.mem_singleton.mp z]
        exact .inl (sentKind_in hd), h.g, h.hz, h.gw, h.gn⟩
  · exact ⟨lt h.ne, lt h.newest, fun i e => lt (h.whole i e), fun i e => lt (h.own i e), fun i e => lt (h.off i e), fun i e => lt (h.ans i e), h.counted, fun i e => lt (h.shows i e), h.sne, fun l hl => by
      rcases List.mem_append.mp hl with z | z
      · exact h.kinds l z
      · rw [List.mem_singleton.mp z]
        exact .inr rfl, h.g, h.hz, h.gw, h.gn⟩
theorem WF.wiped (h : m.WF) (b : Bool) : (m.wiped b).WF := by
  unfold CM.wiped
  split
  · exact { h with own := fun i e => nomatch e }
  · exact h
theorem WF.taken (h : m.WF) {i : Nat} (hi : i < m.letters.length) (t w : Bool) : (m.taken i t w).WF := by
  unfold CM.taken
  split
  · exact { h with whole := fun j e => by cases e; exact hi }
  · split
    · exact { h with own := fun j e => by cases e; exact hi }
    · exact h
theorem wiped_letters (b : Bool) : (m.wiped b).letters = m.letters := by
  unfold CM.wiped
  split <;> rfl
theorem WF.come (h : m.WF) {i : Nat} (hi : i < m.letters.length) : (m.come i).WF := by
  have h2 := (h.wiped (m.effFor i).2).taken (i := i) (by rw [wiped_letters]; exact hi) (m.effFor i).1 (wholeKind (m.kindAt i))
  exact { h2 with }
theorem WF.hear (h : m.WF) {a : Nat} (ha : a < m.answers.length) : (m.hear a).WF := by
  unfold CM.hear
  split
  · exact h
  · refine { h with counted := fun j e => ?_ }
    have e : m.heardCount a = some j := e
    unfold CM.heardCount at e
    split at e
    · cases e
      exact ha
    · cases e
theorem showing_lt (h : m.WF) {i : Nat} (e : m.showing = some i) : i < m.letters.length := by
  unfold CM.showing at e
  split at e
  · exact h.whole i e
  · rename_i j q
    cases e
    exact h.own _ q
theorem WF.answer (h : m.WF) (ha : m.canAnswer = true) : CM.WF { m with answers := m.answers ++ [m.showing.getD 0] } := by
  refine { h with ans := fun i hi => ?_, counted := fun i e => ?_ }
  · rcases List.mem_append.mp hi with z | z
    · exact h.ans i z
    · rw [List.mem_singleton.mp z]
      unfold CM.canAnswer at ha
      cases e : m.showing with
      | none =>
        rw [e] at ha
        cases ha
      | some j => exact showing_lt h e
  · show i < (m.answers ++ [m.showing.getD 0]).length
    rw [List.length_append]
    exact Nat.lt_of_lt_of_le (h.counted i e) (Nat.le_add_right _ _)
theorem WF.ruled (h : m.WF) (r : Option Nat) : (m.ruled r).WF := { h with }
theorem WF.looked (h : m.WF) : m.looked.WF := by
  refine { h with shows := fun i hi => ?_, sne := ?_ }
  · rcases List.mem_append.mp hi with z | z
    · exact h.shows i z
    · exact showing_lt h (List.mem_singleton.mp z).symm
  · show 0 < (m.shows ++ [m.showing]).length
    rw [List.length_append]
    exact Nat.succ_pos _
theorem WF.seen (h : m.WF) (i : Nat) : (m.seen i).WF := { h with }
theorem WF.offed (h : m.WF) {i : Nat} (hi : i < m.letters.length) : (m.offed i).WF := by
  unfold CM.offed
  split
  · exact { h with off := fun j e => by cases e; exact hi }
  · exact h
theorem WF.look (h : m.WF) : m.look.WF := by
  unfold CM.look
  cases e : m.showing with
  | none => exact h.looked
  | some i => exact (h.looked.seen i).offed (showing_lt h e)
theorem WF.addG (h : m.WF) (b : Bool) {g : Str} (hg : g ∈ goalWords) : (m.addG b g).WF := by
  unfold CM.addG
  split
  · split
    · exact h
    · rename_i hn
      refine { h with gw := fun x hx => ?_, gn := ?_ }
      · rcases List.mem_append.mp hx with z | z
        · exact h.gw x z
        · rw [List.mem_singleton.mp z]
          exact hg
      · show (m.goals ++ [g]).Nodup
        rw [List.nodup_append]
        exact ⟨h.gn, List.nodup_cons.mpr ⟨List.not_mem_nil, List.nodup_nil⟩, fun a ha b hb e => hn (by rw [← List.mem_singleton.mp hb, ← e]; exact ha)⟩
  · exact h
theorem WF.judge (h : m.WF) (hd : Option Nat) : (m.judge hd).WF :=
  ((((h.addG _ (by decide +kernel)).addG _ (by decide +kernel)).addG _ (by decide +kernel)).addG _ (by decide +kernel)).addG _ (by decide +kernel)
theorem toCome_lt {z : Str} {i : Nat} (h : m.toCome z = some i) (o : EvOk z) : i < m.letters.length ∧ m.kindAt i ≠ ("other" : Str) := by
  unfold CM.toCome at h
  split at h
  · cases h
  · rename_i j e
    split at h
    · cases h
    · rename_i hk
      cases h
      exact ⟨readPlace_lt e o.c, hk⟩
theorem WF.act (h : m.WF) {z : Str} (o : EvOk z) {x : CM × Option Nat × Option Nat} (e : m.act z = some x) : x.1.WF := by
  unfold CM.act at e
  split at e
  · rename_i hz
    cases e
    exact h.send hz
  · split at e
    · rename_i i hi
      cases e
      exact h.come (toCome_lt hi o).1
    · split at e
      · rename_i a ha
        cases e
        exact h.hear (readPlace_lt ha o.h)
      · split at e
        · rename_i hc
          cases e
          exact h.answer (Bool.and_eq_true_iff.mp hc).2
        · cases e
theorem WF.goOn (h : m.WF) {z : Str} (o : EvOk z) {m2 : CM} (e : m.goOn z = some m2) : m2.WF := by
  unfold CM.goOn at e
  obtain ⟨x, h1, rfl⟩ := Option.map_eq_some_iff.mp e
  exact ((h.act o h1).ruled _).look.judge _
end CM
end Ov


namespace Ov
open PySem PySem.Spec PyProof.Rows L2
open Evl (pss_cut tCut Ex Ev EvT EvL EvA EvU)
/-! ### a Course, as it stands -/
structure CA where
  c : Addr
  dx : Addr
  p : Addr
  L : Addr
  cm : Addr
  sh : Addr
  an : Addr
  sw : Addr
  rl : Addr
  gl : Addr
def CA.muts (A : CA) : List Addr := [A.c, A.L, A.cm, A.sh, A.an, A.sw, A.rl, A.gl]
def cf (A : CA) (m : CM) : List (Str × V) := [("plan", .ref A.p), ("letters", .ref A.L), ("newest", .int (m.newest : Int)), ("whole", ov m.whole), ("own", ov m.own), ("came", .ref A.cm), ("shown", .ref A.sh), ("called_off", ov m.off), ("answers", .ref A.an), ("counted", ov m.counted), ("shows", .ref A.sw), ("rules", .ref A.rl), ("goals", .ref A.gl)]
section
variable {A : CA} {m : CM}
theorem cf_plan : (cf A m).lookup ("plan" : Str) = some (.ref A.p) := by kernel_rfl
theorem cf_letters : (cf A m).lookup ("letters" : Str) = some (.ref A.L) := by kernel_rfl
theorem cf_newest : (cf A m).lookup ("newest" : Str) = some (.int (m.newest : Int)) := by kernel_rfl
theorem cf_whole : (cf A m).lookup ("whole" : Str) = some (ov m.whole) := by kernel_rfl
theorem cf_own : (cf A m).lookup ("own" : Str) = some (ov m.own) := by kernel_rfl
theorem cf_came : (cf A m).lookup ("came" : Str) = some (.ref A.cm) := by kernel_rfl
theorem cf_shown : (cf A m).lookup ("shown" : Str) = some (.ref A.sh) := by kernel_rfl
theorem cf_off : (cf A m).lookup ("called_off" : Str) = some (ov m.off) := by kernel_rfl
theorem cf_answers : (cf A m).lookup ("answers" : Str) = some (.ref A.an) := by kernel_rfl
theorem cf_counted : (cf A m).lookup ("counted" : Str) = some (ov m.counted) := by kernel_rfl
theorem cf_shows : (cf A m).lookup ("shows" : Str) = some (.ref A.sw) := by kernel_rfl
theorem cf_rules : (cf A m).lookup ("rules" : Str) = some (.ref A.rl) := by kernel_rfl
theorem cf_goals : (cf A m).lookup ("goals" : Str) = some (.ref A.gl) := by kernel_rfl
theorem pcf_newest (n : Nat) : putF ("newest" : Str) (.int (n : Int)) (cf A m) = cf A { m with newest := n } := by kernel_rfl
theorem pcf_whole (n : Option Nat) : putF ("whole" : Str) (ov n) (cf A m) = cf A { m with whole := n } := by kernel_rfl
theorem pcf_own (n : Option Nat) : putF ("own" : Str) (ov n) (cf A m) = cf A { m with own := n } := by kernel_rfl
theorem pcf_off (n : Option Nat) : putF ("called_off" : Str) (ov n) (cf A m) = cf A { m with off := n } := by kernel_rfl
theorem pcf_counted (n : Option Nat) : putF ("counted" : Str) (ov n) (cf A m) = cf A { m with counted := n } := by kernel_rfl
end
/-- the letters: tuples of kind and number -/
def LettersAt (H : Hp) (xs : List V) (ls : List (Str × Int)) : Prop := Paired (fun x l => ∃ t, x = V.ref t ∧ H t = some (.tup [.str l.1, .int l.2])) xs ls
def DictI (H : Hp) (a : Addr) (l : List Nat) : Prop := ∃ kvs : List (Key × V), H a = some (.dK kvs) ∧ kvs.length ≤ l.length ∧ ∀ i : Nat, (valV kvs (Sum.inl (i : Int))).isSome = decide (i ∈ l)
def DictG (H : Hp) (a : Addr) (gs : List Str) : Prop := ∃ kvs : List (Key × V), H a = some (.dK kvs) ∧ kvs.map (·.1) = gs.map Sum.inr
structure CourseAt (K : PySem.W.Frag) (CR CP CC : Addr) (B : Hp) (A : CA) (m : CM) (H : Hp) : Prop where
  ex : Ex B H
  fresh : ∀ a ∈ A.muts, B a = none
  nd : A.muts.Nodup
  obj : H A.c = some (.ins CC A.dx (cf A m))
  plan : PlanIs K CR CP m.ks m.rs A.p B
  lts : ∃ xs, H A.L = some (.lst xs) ∧ LettersAt H xs m.letters
  cm : DictI H A.cm m.came
  sh : DictI H A.sh m.shown
  an : H A.an = some (.lst (m.answers.map fun (i : Nat) => V.int (i : Int)))
  sw : H A.sw = some (.lst (m.shows.map ov))
  rl : H A.rl = some (.lst (m.rules.map ov))
  gl : DictG H A.gl m.goals
theorem LettersAt.ex {H H' : Hp} (e : Ex H H') : ∀ {xs : List V} {ls : List (Str × Int)}, LettersAt H xs ls → LettersAt H' xs ls
  | _, _, .nil => .nil
  | _, _, .cons ⟨t, h1, h2⟩ r => .cons ⟨t, h1, e _ _ h2⟩ (LettersAt.ex e r)
theorem LettersAt.upd {H : Hp} {a : Addr} {o u : HO} (ha : H a = some o) (ho : ∀ zs, o ≠ .tup zs) : ∀ {xs : List V} {ls : List (Str × Int)}, LettersAt H xs ls → LettersAt (upd H a u) xs ls
  | _, _, .nil => .nil
  | _, _, .cons ⟨t, h1, h2⟩ r => .cons ⟨t, h1, by
      rw [upd_ne (fun z => by rw [z, ha] at h2; exact ho _ (Option.some.inj h2))]
      exact h2⟩ (LettersAt.upd ha ho r)
theorem LettersAt.at_ {H : Hp} : ∀ {xs : List V} {ls : List (Str × Int)} {i : Nat}, LettersAt H xs ls → i < ls.length → ∃ t l, xs[i]? = some (.ref t) ∧ ls[i]? = some l ∧ H t = some (.tup [.str l.1, .int l.2])
  | _, _, _, .nil, h => absurd h (Nat.not_lt_zero _)
  | _, _, 0, .cons ⟨t, h1, h2⟩ _, _ => ⟨t, _, by rw [h1]; rfl, rfl, h2⟩
  | _, _, i + 1, .cons _ r, h => LettersAt.at_ (i := i) r (Nat.lt_of_succ_lt_succ h)
theorem LettersAt.snoc {H : Hp} {t : Addr} {k : Str} {n : Int} (ht : H t = some (.tup [.str k, .int n])) : ∀ {xs : List V} {ls : List (Str × Int)}, LettersAt H xs ls → LettersAt H (xs ++ [.ref t]) (ls ++ [(k, n)])
  | _, _, .nil => .cons ⟨t, rfl, ht⟩ .nil
  | _, _, .cons h r => .cons h (LettersAt.snoc ht r)
theorem DictI.keep {H H' : Hp} {a : Addr} {l : List Nat} (e : H' a = H a) (h : DictI H a l) : DictI H' a l := by
  obtain ⟨kvs, h1, h2⟩ := h
  exact ⟨kvs, by rw [e]; exact h1, h2⟩
theorem DictG.keep {H H' : Hp} {a : Addr} {l : List Str} (e : H' a = H a) (h : DictG H a l) : DictG H' a l := by
  obtain ⟨kvs, h1, h2⟩ := h
  exact ⟨kvs, by rw [e]; exact h1, h2⟩
theorem DictI.put {H : Hp} {a : Addr} {l : List Nat} {kvs : List (Key × V)} (h2 : kvs.length ≤ l.length) (h3 : ∀ i : Nat, (valV kvs (Sum.inl (i : Int))).isSome = decide (i ∈ l)) (i : Nat) (v : V) : DictI (upd H a (.dK (putK kvs (Sum.inl (i : Int)) v))) a (l ++ [i]) := by
  refine ⟨_, upd_same, ?_, fun j => ?_⟩
  · have := length_putK kvs (Sum.inl (i : Int)) v
    rw [List.length_append, List.length_singleton]
    omega
  · rw [valV_put]
    by_cases e : j = i
    · rw [e, if_pos rfl]
      simp
    · rw [if_neg (fun z => e (Int.ofNat_inj.mp (Sum.inl.inj z))), h3 j]
      simp [e]
theorem keys_put {κ : Type} [DecidableEq κ] {kvs : List (κ × V)} {k : κ} {v : V} : (putK kvs k v).map (·.1) = if k ∈ kvs.map (·.1) then kvs.map (·.1) else kvs.map (·.1) ++ [k] := by
  unfold putK
  have e : (kvs.any fun kv => decide (kv.1 = k)) = decide (k ∈ kvs.map (·.1)) := by
    rw [Bool.eq_iff_iff]
    simp only [List.any_eq_true, decide_eq_true_eq, List.mem_map]
  rw [e]
  by_cases h : k ∈ kvs.map (·.1)
  · rw [if_pos (decide_eq_true h), if_pos h, List.map_map]
    refine List.map_congr_left fun x _ => ?_
    show (if x.1 = k then (x.1, v) else x).1 = x.1
    split <;> rfl
  · rw [if_neg (by simpa using h), if_neg h, List.map_append]
    rfl
theorem DictG.put {H : Hp} {a : Addr} {gs : List Str} {kvs : List (Key × V)} (h : kvs.map (·.1) = gs.map Sum.inr) (g : Str) (v : V) : DictG (upd H a (.dK (putK kvs (Sum.inr g) v))) a (if g ∈ gs then gs else gs ++ [g]) := by
  refine ⟨_, upd_same, ?_⟩
  rw [keys_put, h]
  have e : ((Sum.inr g : Key) ∈ gs.map Sum.inr) = (g ∈ gs) := by simp
  by_cases hg : g ∈ gs
  · rw [if_pos (by rw [e]; exact hg), if_pos hg]
  · rw [if_neg (by rw [e]; exact hg), if_neg hg, List.map_append]
    rfl
section
variable {K : PySem.W.Frag} {CR CP CC : Addr} {B : Hp} {A : CA} {m : CM} {H : Hp}
theorem CourseAt.ne (h : CourseAt K CR CP CC B A m H) (i j : Fin 8) (hij : i ≠ j) : A.muts.get i ≠ A.muts.get j := by
  have p := List.pairwise_iff_getElem.mp h.nd
  rcases Nat.lt_or_gt_of_ne (fun z => hij (Fin.ext z)) with l | l
  · exact p i.1 j.1 i.2 j.2 l
  · exact (p j.1 i.1 j.2 i.2 l).symm
theorem CourseAt.ext (h : CourseAt K CR CP CC B A m H) {H' : Hp} (e : Ex H H') : CourseAt K CR CP CC B A m H' where
  ex := h.ex.trans e
  fresh := h.fresh
  nd := h.nd
  obj := e _ _ h.obj
  plan := h.plan
  lts := by
    obtain ⟨xs, h1, h2⟩ := h.lts
    exact ⟨xs, e _ _ h1, h2.ex e⟩
  cm := by
    obtain ⟨kvs, h1, h2⟩ := h.cm
    exact ⟨kvs, e _ _ h1, h2⟩
  sh := by
    obtain ⟨kvs, h1, h2⟩ := h.sh
    exact ⟨kvs, e _ _ h1, h2⟩
  an := e _ _ h.an
  sw := e _ _ h.sw
  rl := e _ _ h.rl
  gl := by
    obtain ⟨kvs, h1, h2⟩ := h.gl
    exact ⟨kvs, e _ _ h1, h2⟩
/-- what only its object bears -/
structure CM.Alike (m m2 : CM) : Prop where
  ks : m2.ks = m.ks
  rs : m2.rs = m.rs
  l : m2.letters = m.letters
  c : m2.came = m.came
  h : m2.shown = m.shown
  a : m2.answers = m.answers
  s : m2.shows = m.shows
  r : m2.rules = m.rules
  g : m2.goals = m.goals
theorem CourseAt.putc (h : CourseAt K CR CP CC B A m H) {m2 : CM} {fs : List (Str × V)} (e : fs = cf A m2) (s : m.Alike m2) : CourseAt K CR CP CC B A m2 (upd H A.c (.ins CC A.dx fs)) where
  ex := h.ex.mut (h.fresh _ (by simp [CA.muts]))
  fresh := h.fresh
  nd := h.nd
  obj := by rw [upd_same, e]
  plan := by rw [s.ks, s.rs]; exact h.plan
  lts := by
    obtain ⟨xs, h1, h2⟩ := h.lts
    exact ⟨xs, (upd_ne (h.ne 1 0 (by decide))).trans h1, by rw [s.l]; exact h2.upd h.obj (fun zs z => nomatch z)⟩
  cm := by rw [s.c]; exact h.cm.keep (upd_ne (h.ne 2 0 (by decide)))
  sh := by rw [s.h]; exact h.sh.keep (upd_ne (h.ne 3 0 (by decide)))
  an := by rw [s.a]; exact (upd_ne (h.ne 4 0 (by decide))).trans h.an
  sw := by rw [s.s]; exact (upd_ne (h.ne 5 0 (by decide))).trans h.sw
  rl := by rw [s.r]; exact (upd_ne (h.ne 6 0 (by decide))).trans h.rl
  gl := by rw [s.g]; exact h.gl.keep (upd_ne (h.ne 7 0 (by decide)))
theorem CourseAt.putL (h : CourseAt K CR CP CC B A m H) {xs : List V} (hx : H A.L = some (.lst xs)) {t : Addr} {k : Str} {n : Int} (ht : H t = some (.tup [.str k, .int n])) : CourseAt K CR CP CC B A { m with letters := m.letters ++ [(k, n)] } (upd H A.L (.lst (xs ++ [.ref t]))) where
  ex := h.ex.mut (h.fresh _ (by simp [CA.muts]))
  fresh := h.fresh
  nd := h.nd
  obj := (upd_ne (h.ne 0 1 (by decide))).trans h.obj
  plan := h.plan
  lts := by
    obtain ⟨ys, h1, h2⟩ := h.lts
    rw [hx] at h1
    cases h1
    exact ⟨_, upd_same, (h2.snoc ht).upd hx (fun zs z => nomatch z)⟩
  cm := h.cm.keep (upd_ne (h.ne 2 1 (by decide)))
  sh := h.sh.keep (upd_ne (h.ne 3 1 (by decide)))
  an := (upd_ne (h.ne 4 1 (by decide))).trans h.an
  sw := (upd_ne (h.ne 5 1 (by decide))).trans h.sw
  rl := (upd_ne (h.ne 6 1 (by decide))).trans h.rl
  gl := h.gl.keep (upd_ne (h.ne 7 1 (by decide)))
theorem CourseAt.putcm (h : CourseAt K CR CP CC B A m H) {kvs : List (Key × V)} (hx : H A.cm = some (.dK kvs)) (i : Nat) (v : V) : CourseAt K CR CP CC B A { m with came := m.came ++ [i] } (upd H A.cm (.dK (putK kvs (Sum.inl (i : Int)) v))) where
  ex := h.ex.mut (h.fresh _ (by simp [CA.muts]))
  fresh := h.fresh
  nd := h.nd
  obj := (upd_ne (h.ne 0 2 (by decide))).trans h.obj
  plan := h.plan
  lts := by
    obtain ⟨ys, h1, h2⟩ := h.lts
    exact ⟨ys, (upd_ne (h.ne 1 2 (by decide))).trans h1, h2.upd hx (fun zs z => nomatch z)⟩
  cm := by
    obtain ⟨kvs2, h1, h2, h3⟩ := h.cm
    rw [hx] at h1
    cases h1
    exact DictI.put h2 h3 i v
  sh := h.sh.keep (upd_ne (h.ne 3 2 (by decide)))
  an := (upd_ne (h.ne 4 2 (by decide))).trans h.an
  sw := (upd_ne (h.ne 5 2 (by decide))).trans h.sw
  rl := (upd_ne (h.ne 6 2 (by decide))).trans h.rl
  gl := h.gl.keep (upd_ne (h.ne 7 2 (by decide)))
theorem CourseAt.putsh (h : CourseAt K CR CP CC B A m H) {kvs : List (Key × V)} (hx : H A.sh = some (.dK kvs)) (i : Nat) (v : V) : CourseAt K CR CP CC B A { m with shown := m.shown ++ [i] } (upd H A.sh (.dK (putK kvs (Sum.inl (i : Int)) v))) where
  ex := h.ex.mut (h.fresh _ (by simp [CA.muts]))
  fresh := h.fresh
  nd := h.nd
  obj := (upd_ne (h.ne 0 3 (by decide))).trans h.obj
  plan := h.plan
  lts := by
    obtain ⟨ys, h1, h2⟩ := h.lts
    exact ⟨ys, (upd_ne (h.ne 1 3 (by decide))).trans h1, h2.upd hx (fun zs z => nomatch z)⟩
  cm := h.cm.keep (upd_ne (h.ne 2 3 (by decide)))
  sh := by
    obtain ⟨kvs2, h1, h2, h3⟩ := h.sh
    rw [hx] at h1
    cases h1
    exact DictI.put h2 h3 i v
  an := (upd_ne (h.ne 4 3 (by decide))).trans h.an
  sw := (upd_ne (h.ne 5 3 (by decide))).trans h.sw
  rl := (upd_ne (h.ne 6 3 (by decide))).trans h.rl
  gl := h.gl.keep (upd_ne (h.ne 7 3 (by decide)))
theorem CourseAt.putan (h : CourseAt K CR CP CC B A m H) (i : Nat) : CourseAt K CR CP CC B A { m with answers := m.answers ++ [i] } (upd H A.an (.lst ((m.answers.map fun (i : Nat) => V.int (i : Int)) ++ [.int (i : Int)]))) where
  ex := h.ex.mut (h.fresh _ (by simp [CA.muts]))
  fresh := h.fresh
  nd := h.nd
  obj := (upd_ne (h.ne 0 4 (by decide))).trans h.obj
  plan := h.plan
  lts := by
    obtain ⟨ys, h1, h2⟩ := h.lts
    exact ⟨ys, (upd_ne (h.ne 1 4 (by decide))).trans h1, h2.upd h.an (fun zs z => nomatch z)⟩
  cm := h.cm.keep (upd_ne (h.ne 2 4 (by decide)))
  sh := h.sh.keep (upd_ne (h.ne 3 4 (by decide)))
  an := by rw [upd_same, List.map_append]; rfl
  sw := (upd_ne (h.ne 5 4 (by decide))).trans h.sw
  rl := (upd_ne (h.ne 6 4 (by decide))).trans h.rl
  gl := h.gl.keep (upd_ne (h.ne 7 4 (by decide)))
theorem CourseAt.putsw (h : CourseAt K CR CP CC B A m H) (i : Option Nat) : CourseAt K CR CP CC B A { m with shows := m.shows ++ [i] } (upd H A.sw (.lst (m.shows.map ov ++ [ov i]))) where
  ex := h.ex.mut (h.fresh _ (by simp [CA.muts]))
  fresh := h.fresh
  nd := h.nd
  obj := (upd_ne (h.ne 0 5 (by decide))).trans h.obj
  plan := h.plan
  lts := by
    obtain ⟨ys, h1, h2⟩ := h.lts
    exact ⟨ys, (upd_ne (h.ne 1 5 (by decide))).trans h1, h2.upd h.sw (fun zs z => nomatch z)⟩
  cm := h.cm.keep (upd_ne (h.ne 2 5 (by decide)))
  sh := h.sh.keep (upd_ne (h.ne 3 5 (by decide)))
  an := (upd_ne (h.ne 4 5 (by decide))).trans h.an
  sw := by rw [upd_same, List.map_append]; rfl
  rl := (upd_ne (h.ne 6 5 (by decide))).trans h.rl
  gl := h.gl.keep (upd_ne (h.ne 7 5 (by decide)))
theorem CourseAt.putrl (h : CourseAt K CR CP CC B A m H) (i : Option Nat) : CourseAt K CR CP CC B A (m.ruled i) (upd H A.rl (.lst (m.rules.map ov ++ [ov i]))) where
  ex := h.ex.mut (h.fresh _ (by simp [CA.muts]))
  fresh := h.fresh
  nd := h.nd
  obj := (upd_ne (h.ne 0 6 (by decide))).trans h.obj
  plan := h.plan
  lts := by
    obtain ⟨ys, h1, h2⟩ := h.lts
    exact ⟨ys, (upd_ne (h.ne 1 6 (by decide))).trans h1, h2.upd h.rl (fun zs z => nomatch z)⟩
  cm := h.cm.keep (upd_ne (h.ne 2 6 (by decide)))
  sh := h.sh.keep (upd_ne (h.ne 3 6 (by decide)))
  an := (upd_ne (h.ne 4 6 (by decide))).trans h.an
  sw := (upd_ne (h.ne 5 6 (by decide))).trans h.sw
  rl := by rw [upd_same]; unfold CM.ruled; rw [List.map_append]; rfl
  gl := h.gl.keep (upd_ne (h.ne 7 6 (by decide)))
theorem CourseAt.putgl (h : CourseAt K CR CP CC B A m H) {kvs : List (Key × V)} (hx : H A.gl = some (.dK kvs)) (g : Str) (v : V) : CourseAt K CR CP CC B A (m.addG true g) (upd H A.gl (.dK (putK kvs (Sum.inr g) v))) := by
  have e : m.addG true g = { m with goals := if g ∈ m.goals then m.goals else m.goals ++ [g] } := by
    unfold CM.addG
    rw [if_pos rfl]
    split <;> rfl
  rw [e]
  exact {
    ex := h.ex.mut (h.fresh _ (by simp [CA.muts]))
    fresh := h.fresh
    nd := h.nd
    obj := (upd_ne (h.ne 0 7 (by decide))).trans h.obj
    plan := h.plan
    lts := by
      obtain ⟨ys, h1, h2⟩ := h.lts
      exact ⟨ys, (upd_ne (h.ne 1 7 (by decide))).trans h1, h2.upd hx (fun zs z => nomatch z)⟩
    cm := h.cm.keep (upd_ne (h.ne 2 7 (by decide)))
    sh := h.sh.keep (upd_ne (h.ne 3 7 (by decide)))
    an := (upd_ne (h.ne 4 7 (by decide))).trans h.an
    sw := (upd_ne (h.ne 5 7 (by decide))).trans h.sw
    rl := (upd_ne (h.ne 6 7 (by decide))).trans h.rl
    gl := by
      obtain ⟨kvs2, h1, h2⟩ := h.gl
      rw [hx] at h1
      cases h1
      exact DictG.put h2 g v }
end
end Ov


namespace Ov
open PySem PySem.Spec PyProof.Rows L2
open Evl (pss_cut tCut Ex Ev EvT EvL EvA EvU)
/-! ### Course: showing, send, standing_to -/
structure TxC (K : PySem.W.Frag) (mg : Str → Option Value) (CC : Addr) (tO : Tok) : Prop where
  g_Course : mg "Course" = some (.ref CC)
  g_OTHER : mg "OTHER" = some (.str "other" tO)
  cl : Cls K CC
  plan : NoAttr K CC "plan"
  letters : NoAttr K CC "letters"
  newest : NoAttr K CC "newest"
  whole : NoAttr K CC "whole"
  own : NoAttr K CC "own"
  came : NoAttr K CC "came"
  shown : NoAttr K CC "shown"
  off : NoAttr K CC "called_off"
  answers : NoAttr K CC "answers"
  counted : NoAttr K CC "counted"
  shows : NoAttr K CC "shows"
  rules : NoAttr K CC "rules"
  goals : NoAttr K CC "goals"
theorem ov_non (o : Option Nat) : decide (ov o = .non) = decide (o = none) := by cases o <;> rfl
theorem ov_some {o : Option Nat} {i : Nat} (h : o = some i) : ov o = .int (i : Int) := by rw [h]; rfl
section
variable {K : PySem.W.Frag} {CR CP CC : Addr} {B : Hp} {A : CA} {m : CM} {H : Hp} {σ : L2.St} {ta tb te to : TE} {D : Ends} {tz : TS}
theorem CourseAt.f (h : CourseAt K CR CP CC B A m H) {x : Str} {v : V} (cl : Cls K CC) (hn : NoAttr K CC x) (hl : (cf A m).lookup x = some v) (ha : Ev ta σ H (.ref A.c)) : Ev (tFld K ta x) σ H v := ev_fld ha h.obj cl hn hl
theorem s_cfld (h : CourseAt K CR CP CC B A m H) {m2 : CM} {x : Str} {v : V} (cl : Cls K CC) (nf : NoAttr K CC x) (e : putF x v (cf A m) = cf A m2) (al : m.Alike m2) (hv : Ev te σ H v) (ho : Ev to σ H (.ref A.c)) (k : ∀ H1, CourseAt K CR CP CC B A m2 H1 → D.nx σ H1) : sFld K to te x D σ H :=
  hv H (Ex.refl _) _ fun H1 e1 => ho H1 e1 _ fun H2 e2 => ⟨A.c, CC, A.dx, cf A m, rfl, (h.ext (e1.trans e2)).obj, cl, nf, by show 13 < 1000; decide, k _ ((h.ext (e1.trans e2)).putc e al)⟩
theorem q_cfld (h : CourseAt K CR CP CC B A m H) {m2 : CM} {x : Str} {v : V} (cl : Cls K CC) (nf : NoAttr K CC x) (e : putF x v (cf A m) = cf A m2) (al : m.Alike m2) (hv : Ev te σ H v) (ho : Ev to σ H (.ref A.c)) (k : ∀ H1, CourseAt K CR CP CC B A m2 H1 → tz D σ H1) : tSeq (sFld K to te x) tz D σ H :=
  s_cfld (D := { D with nx := tz D }) h cl nf e al hv ho k
theorem ev_callU {sp : Sp} {tr : TA} {xs vs : List V} {z : V} (hu : EvU ta σ H xs) (hr : EvA tr σ H vs) (hs : ∀ t H1, Ex H H1 → H1 t = some (.tup xs) → ∀ Q : VK, (∀ H2, Ex H1 H2 → Q z H2) → sp (.ref t :: vs) H1 Q E0) : Ev (tCall sp [] E0 (tCons ta tr)) σ H z := fun H1 e Q q =>
  hu H1 e _ fun t H2 _ e2 ht => hr H2 (e.trans e2) _ fun H3 e3 => by
    show sp ((.ref t :: vs) ++ []) H3 Q E0
    rw [List.append_nil]
    exact hs t H3 ((e.trans e2).trans e3) (e3 _ _ ht) Q fun H4 e4 => q H4 ((e2.trans e3).trans e4)
theorem letter_at {i : Nat} {l : Str × Int} (e : m.letters[i]? = some l) : m.kindAt i = l.1 ∧ m.numAt i = l.2 := by
  unfold CM.kindAt CM.numAt
  rw [e]
  exact ⟨rfl, rfl⟩
theorem atI_neg1 {xs : List V} {x : V} (h : xs[xs.length - 1]? = some x) (hl : 0 < xs.length) : atI xs (-1) = some x := by
  rcases List.eq_nil_or_concat xs with rfl | ⟨ys, y, rfl⟩
  · exact absurd hl (Nat.lt_irrefl _)
  · rw [List.concat_eq_append] at h ⊢
    rw [atI_last]
    simpa using h
theorem CourseAt.kind (h : CourseAt K CR CP CC B A m H) {i : Nat} (hi : i < m.letters.length) (ha : Ev ta σ H (.ref A.L)) (hb : Ev tb σ H (.int (i : Int))) : Ev (tOp (rIxT K) (tOp (rIxL K) ta tb) (tC (V.int 0))) σ H (.str (m.kindAt i)) := by
  obtain ⟨xs, h1, h2⟩ := h.lts
  obtain ⟨t, l, e1, e2, e3⟩ := h2.at_ hi
  rw [(letter_at e2).1]
  exact ev_ixT (j := 0) (Evl.ev_op ha hb (Evl.rv_ixL (Evl.sq_of h1) (atI_nat e1))) Evl.ev_c (Evl.st_of e3) rfl
theorem CourseAt.num (h : CourseAt K CR CP CC B A m H) {i : Nat} (hi : i < m.letters.length) (ha : Ev ta σ H (.ref A.L)) (hb : Ev tb σ H (.int (i : Int))) : Ev (tOp (rIxT K) (tOp (rIxL K) ta tb) (tC (V.int 1))) σ H (.int (m.numAt i)) := by
  obtain ⟨xs, h1, h2⟩ := h.lts
  obtain ⟨t, l, e1, e2, e3⟩ := h2.at_ hi
  rw [(letter_at e2).2]
  exact ev_ixT (j := 1) (Evl.ev_op ha hb (Evl.rv_ixL (Evl.sq_of h1) (atI_nat e1))) Evl.ev_c (Evl.st_of e3) rfl
theorem CourseAt.last (h : CourseAt K CR CP CC B A m H) (hw : m.WF) (ha : Ev ta σ H (.ref A.L)) (hb : Ev tb σ H (.int (-1))) : Ev (tOp (rIxT K) (tOp (rIxL K) ta tb) (tC (V.int 1))) σ H (.int m.lastNum) := by
  obtain ⟨xs, h1, h2⟩ := h.lts
  have hne := hw.ne
  have hl := paired_len h2
  obtain ⟨t, l, e1, e2, e3⟩ := h2.at_ (i := m.letters.length - 1) (by omega)
  have e := (letter_at e2).2
  unfold CM.lastNum
  rw [e]
  rw [← hl] at e1
  exact ev_ixT (j := 1) (Evl.ev_op ha hb (Evl.rv_ixL (Evl.sq_of h1) (atI_neg1 e1 (by omega)))) Evl.ev_c (Evl.st_of e3) rfl
theorem CourseAt.lenL (h : CourseAt K CR CP CC B A m H) (ha : Ev ta σ H (.ref A.L)) : Ev (tCB (Evl.rLenS K) (tCons ta tNil)) σ H (.int (m.letters.length : Int)) := by
  obtain ⟨xs, h1, h2⟩ := h.lts
  rw [← paired_len h2]
  exact Evl.ev_len ha (Evl.sq_of h1)
end
def spShowing (K : PySem.W.Frag) (CR CP CC : Addr) : Sp := fun vs H Q _ => ∃ (B : Hp) (A : CA) (m : CM), vs = [.ref A.c] ∧ CourseAt K CR CP CC B A m H ∧ ∀ H', Ex H H' → Q (ov m.showing) H'
def spSend (K : PySem.W.Frag) (CR CP CC : Addr) : Sp := fun vs H Q _ => ∃ (B : Hp) (A : CA) (m : CM) (d : Str), vs = [.ref A.c, .str d] ∧ CourseAt K CR CP CC B A m H ∧ m.WF ∧ m.letters.length ≤ 5000 ∧ d ∈ CM.deedsAll ∧ ∀ H', CourseAt K CR CP CC B A (m.send d) H' → Q .non H'
def spStandingTo (K : PySem.W.Frag) (CR CP CC : Addr) : Sp := fun vs H Q _ => ∃ (B : Hp) (A : CA) (m : CM) (i : Nat) (p : Option Nat), vs = [.ref A.c, .int (i : Int), ov p] ∧ CourseAt K CR CP CC B A m H ∧ i < m.letters.length ∧ (∀ j, p = some j → j < m.letters.length) ∧ ∀ H', Ex H H' → Q (.str (m.rel i p)) H'
section
variable {P : Program} {w : World} {K : PySem.W.Frag} {mg : Str → Option Value} {base : Heap} {a_LETTERS a_LETTER_TESTS a_LETTER_DEEDS a_ANSWER_TESTS a_ANSWER_DEEDS CR CP CC a_HOLDS : Addr} {tA tN tO : Tok}
theorem scCourseShowing : FnScope ["self"] ["self"] (defScope sCourseShowing) := ⟨rfl, rfl, rfl, by decide +kernel, rfl, by decide +kernel, by decide +kernel⟩
theorem scCourseSend : FnScope ["self", "deed", "kind", "number"] ["self", "deed"] (defScope sCourseSend) := ⟨rfl, rfl, rfl, by decide +kernel, rfl, by decide +kernel, by decide +kernel⟩
theorem scCourseStandingTo : FnScope ["self", "place", "part", "other"] ["self", "place", "part"] (defScope sCourseStandingTo) := ⟨rfl, rfl, rfl, by decide +kernel, rfl, by decide +kernel, by decide +kernel⟩
theorem ok_showing {f : Addr} {fd : FuncData} (F : Fun K "showing" "Course.showing" sCourseShowing f fd) (TC : TxC K mg CC tO) : FnOk P w K mg base CX0 1 f fd ["self"] (spShowing K CR CP CC) := by
  refine F.ok scCourseShowing (fun vs H Q E h => ?_) (fun cdv A outer s H vs Q E hr h => ?_)
  · obtain ⟨B, A, m, rfl, _⟩ := h
    rfl
  · obtain ⟨B, A, m, rfl, h, q⟩ := h
    refine ⟨_, pss_one (ps_ret (pe_ifExp (pt_cmpR op_isN (pe_fld (pv 0) rfl) pe_non (nomark _)) (pe_fld (pv 0) rfl) (pe_fld (pv 0) rfl))), ?_⟩
    refine Evl.s_ret (v := ov m.showing) (Evl.ev_if (b := decide (m.own = none)) (Evl.et_is (Evl.et_test (Evl.ev_op (h.f TC.cl TC.own cf_own (Evl.ev_var rfl)) Evl.ev_c rv_isN)) (ov_non _)) (fun e => ?_) (fun e => ?_)) q
    · have e2 : m.showing = m.whole := by
        unfold CM.showing
        rw [of_decide_eq_true e]
      rw [e2]
      exact h.f TC.cl TC.whole cf_whole (Evl.ev_var rfl)
    · have e2 : m.showing = m.own := by
        unfold CM.showing
        cases e3 : m.own with
        | none =>
          rw [e3] at e
          cases e
        | some i => rfl
      rw [e2]
      exact h.f TC.cl TC.own cf_own (Evl.ev_var rfl)
theorem ok_send {f : Addr} {fd : FuncData} (F : Fun K "send" "Course.send" sCourseSend f fd) (T : TxR K mg a_LETTERS a_LETTER_TESTS a_LETTER_DEEDS a_ANSWER_TESTS a_ANSWER_DEEDS CR tA tN) (TP : TxP K mg CP) (TC : TxC K mg CC tO) : FnOk P w K mg base CX0 1 f fd ["self", "deed"] (spSend K CR CP CC) := by
  refine F.ok scCourseSend (fun vs H Q E h => ?_) (fun cdv A outer s H vs Q E hr h => ?_)
  · obtain ⟨B, A, m, d, rfl, _⟩ := h
    rfl
  · obtain ⟨B, A, m, d, rfl, h, hw, hz, hd, q⟩ := h
    refine ⟨_, pss_cons (ps_set (i := 2) scCourseSend.nd rfl (.inl rfl) (pe_bm PySem.F.plainAttrs_str PySem.F.slot_str_removeprefix PySem.F.type_str_removeprefix mt_removeprefix (pv 1) (pa_cons pe_str pa_nil)))
      (pss_cons (ps_set (i := 3) scCourseSend.nd rfl (.inl rfl) (pe_op op_add (pe_ix ix_tup (pe_ix ix_list (pe_fld (pv 0) rfl) (pe_un un_neg pe_int) (fun _ _ => rfl)) pe_int (fun _ _ => rfl)) (pe_ifExp (pt_cmpR op_in_seq (pv 2) (pe_fld (pe_fld (pv 0) rfl) rfl) (by rfl)) pe_int pe_int)))
      (pss_cut (ps_if (pt_cmpR op_eq (pv 1) (pv 2) (nomark _)) (pss_cons (ps_fld (pv 0) (pe_callB call_len_seq (by rfl) T.n_len (by decide +kernel) (pa_cons (pe_fld (pv 0) rfl) pa_nil)) rfl)
      (pss_one (ps_fld (pv 0) pe_non rfl))) pss_nil)
      (pss_one (ps_expr (pe_bm PySem.F.plainAttrs_list PySem.F.slot_list_append PySem.F.type_list_append mt_append (pe_fld (pv 0) rfl) (pa_cons (pe_tup (pa_cons (pe_ifExp (pt_cmpR op_eq (pv 1) (pv 2) (nomark _)) (pv 2) (pe_glob (v := .str "other") rfl TC.g_OTHER ⟨_, rfl⟩)) (pa_cons (pv 3) pa_nil))) pa_nil)))))), ?_⟩
    have ld : d.length ≤ 16 := by
      have a : ∀ d ∈ CM.deedsAll, d.length ≤ 16 := by decide +kernel
      exact a d hd
    obtain ⟨xs, ⟨dp, a, b, h1, h2, h3⟩, hR⟩ := h.plan
    refine Evl.q_asg (v := .str (CM.sentKind d)) (fun H2 e2 Q2 q2 => ⟨_, rfl, rfl, _, _, rfl, rfl, size_of (by omega), q2 H2 (Ex.refl _)⟩) fun H1 e1 => ?_
    have c1 := h.ext e1
    refine Evl.q_asg (v := .int (m.sentNum d)) (Evl.ev_op (c1.last hw (c1.f TC.cl TC.letters cf_letters (Evl.ev_var rfl)) (Evl.ev_un Evl.ev_c Evl.ru_neg)) (Evl.ev_if (b := decide (CM.sentKind d ∈ m.ks)) (v := .int (if CM.sentKind d ∈ m.ks then 1 else 0)) (Evl.et_test (Evl.ev_is (Evl.ev_op (Evl.ev_var rfl) (ev_fld (c1.f TC.cl TC.plan cf_plan (Evl.ev_var rfl)) (c1.ex _ _ h1) TP.cl TP.nR (pf_raises _ _)) (Evl.rv_isT (Evl.ex_t c1.ex h2) rfl (flat_strs _))) (by rw [inV_strs]))) (fun e => ?_) (fun e => ?_)) Evl.rv_I0) fun H2 e2 => ?_
    · rw [if_pos (of_decide_eq_true e)]
      exact Evl.ev_c
    · rw [if_neg (of_decide_eq_false e)]
      exact Evl.ev_c
    have c2 := c1.ext e2
    let m1 : CM := if d = CM.sentKind d then { m with newest := m.letters.length, counted := none } else m
    refine Evl.q_cut (M := fun σ' H' => σ' = [some (.ref A.c), some (.str d), some (.str (CM.sentKind d)), some (.int (m.sentNum d))] ∧ CourseAt K CR CP CC B A m1 H') ?_ (fun σ' H' hh => ?_)
    · refine Evl.s_when (b := decide (d = CM.sentKind d)) (Evl.et_is (Evl.et_test (Evl.ev_op (Evl.ev_var rfl) (Evl.ev_var rfl) (Evl.rv_eq rfl))) (eq_str _ _)) (fun e H3 e3 => ?_) (fun e H3 e3 => ⟨rfl, ?_⟩)
      · have c3 := c2.ext e3
        refine q_cfld c3 TC.cl TC.newest (pcf_newest m.letters.length) ⟨rfl, rfl, rfl, rfl, rfl, rfl, rfl, rfl, rfl⟩ (c3.lenL (c3.f TC.cl TC.letters cf_letters (Evl.ev_var rfl))) (Evl.ev_var rfl) fun H4 c4 => ?_
        refine s_cfld c4 TC.cl TC.counted (pcf_counted none) ⟨rfl, rfl, rfl, rfl, rfl, rfl, rfl, rfl, rfl⟩ Evl.ev_c (Evl.ev_var rfl) fun H5 c5 => ⟨rfl, ?_⟩
        have em : m1 = { m with newest := m.letters.length, counted := none } := if_pos (of_decide_eq_true e)
        rw [em]
        exact c5
      · have em : m1 = m := if_neg (of_decide_eq_false e)
        rw [em]
        exact c2.ext e3
    · obtain ⟨rfl, c3⟩ := hh
      have ml : m1.letters = m.letters := by
        show (if d = CM.sentKind d then { m with newest := m.letters.length, counted := none } else m : CM).letters = m.letters
        split <;> rfl
      have es : m.send d = { m1 with letters := m1.letters ++ [(if d = CM.sentKind d then CM.sentKind d else ("other" : Str), m.sentNum d)] } := by
        rw [ml]
        show m.send d = { (if d = CM.sentKind d then { m with newest := m.letters.length, counted := none } else m : CM) with letters := m.letters ++ [(if d = CM.sentKind d then CM.sentKind d else ("other" : Str), m.sentNum d)] }
        unfold CM.send
        by_cases e : d = CM.sentKind d
        · rw [if_pos e, if_pos e, if_pos e]
        · rw [if_neg e, if_neg e, if_neg e]
      obtain ⟨ys, y1, y2⟩ := c3.lts
      have yl := paired_len y2
      refine Evl.s_appU y1 (c3.f TC.cl TC.letters cf_letters (Evl.ev_var rfl)) (Evl.eu_tup (Evl.ea_cons (x := .str (if d = CM.sentKind d then CM.sentKind d else ("other" : Str))) (Evl.ev_if (b := decide (d = CM.sentKind d)) (Evl.et_is (Evl.et_test (Evl.ev_op (Evl.ev_var rfl) (Evl.ev_var rfl) (Evl.rv_eq rfl))) (eq_str _ _)) (fun e => ?_) (fun e => ?_)) (Evl.ea_cons (Evl.ev_var rfl) Evl.ea_nil)) (by show 2 ≤ 100000; decide)) (by rw [yl, ml]; omega) fun p H4 np e4 hp => ?_
      · rw [if_pos (of_decide_eq_true e)]
        exact Evl.ev_var rfl
      · rw [if_neg (of_decide_eq_false e)]
        exact Evl.ev_c
      · have c5 := (c3.ext e4).putL (e4 _ _ y1) hp
        refine q _ ?_
        rw [es]
        exact c5
theorem ok_standing_to {f fR : Addr} {fd fdR : FuncData} (F : Fun K "standing_to" "Course.standing_to" sCourseStandingTo f fd) (TC : TxC K mg CC tO) (D_relation : Df K mg "relation" sRelation ["letter", "part"] fR fdR) : FnOk P w K mg base CX0 2 f fd ["self", "place", "part"] (spStandingTo K CR CP CC) := by
  have G_relation : FnOk P w K mg base CX0 1 fR fdR ["letter", "part"] (spRelation K) := ok_relation D_relation.F
  refine F.ok scCourseStandingTo (fun vs H Q E h => ?_) (fun cdv A outer s H vs Q E hr h => ?_)
  · obtain ⟨B, A, m, i, p, rfl, _⟩ := h
    rfl
  · obtain ⟨B, A, m, i, p, rfl, h, hi, hp, q⟩ := h
    refine ⟨_, pss_cons (ps_set (i := 3) scCourseStandingTo.nd rfl (.inl rfl) (pe_ifExp (pt_cmpR op_isN (pv 2) pe_non (nomark _)) pe_non (pe_tup (pa_cons (pe_ix ix_tup (pe_ix ix_list (pe_fld (pv 0) rfl) (pv 2) (fun _ _ => rfl)) pe_int (fun _ _ => rfl)) (pa_cons (pv 2) pa_nil)))))
      (pss_one (ps_ret (pe_call G_relation (hr.mono (by decide)) rfl D_relation.g D_relation.F.kp D_relation.b .nil pass0 (pa_cons (pe_tup (pa_cons (pe_ix ix_tup (pe_ix ix_list (pe_fld (pv 0) rfl) (pv 1) (fun _ _ => rfl)) pe_int (fun _ _ => rfl)) (pa_cons (pv 1) pa_nil))) (pa_cons (pv 3) pa_nil))))), ?_⟩
    have fin : ∀ (v : V) (H1 : Hp), Ex H H1 → PartAt K H1 v (p.map fun j => (m.numAt j, (j : Int))) → (tRet (tCall (spRelation K) [] E0 (tCons (tTup (tCons (tOp (rIxT K) (tOp (rIxL K) (tFld K (tVar 0) "letters") (tVar 1)) (tC (V.int 1))) (tCons (tVar 1) tNil))) (tCons (tVar 3) tNil)))) { nx := fun _ H' => Q .non H', rt := Q } [some (.ref A.c), some (.int (i : Int)), some (ov p), some v] H1 := fun v H1 e1 hv => by
      have c1 := h.ext e1
      have eu : EvU (tTup (tCons (tOp (rIxT K) (tOp (rIxL K) (tFld K (tVar 0) "letters") (tVar 1)) (tC (V.int 1))) (tCons (tVar 1) tNil))) [some (.ref A.c), some (.int (i : Int)), some (ov p), some v] H1 [.int (m.numAt i), .int (i : Int)] := Evl.eu_tup (Evl.ea_cons (c1.num hi (c1.f TC.cl TC.letters cf_letters (Evl.ev_var rfl)) (Evl.ev_var rfl)) (Evl.ea_cons (Evl.ev_var rfl) Evl.ea_nil)) (by show 2 ≤ 100000; decide)
      exact Evl.s_ret (v := .str (m.rel i p)) (ev_callU eu (Evl.ea_cons (Evl.ev_var rfl) Evl.ea_nil) fun t H2 e2 ht Q2 q2 => ⟨t, v, m.numAt i, (i : Int), _, rfl, Evl.st_of ht, hv.ex e2, fun H3 e3 => q2 H3 e3⟩) fun H3 e3 => q H3 (e1.trans e3)
    rcases p with _ | j
    · refine Evl.q_asg (v := .non) (Evl.ev_if (b := true) (Evl.et_test (Evl.ev_op (Evl.ev_var rfl) Evl.ev_c rv_isN)) (fun _ => Evl.ev_c) (fun z => nomatch z)) fun H1 e1 => ?_
      exact fin .non H1 e1 rfl
    · refine q_asgP (Pp := fun t H2 => H2 t = some (.tup [.int (m.numAt j), .int (j : Int)])) (evP_ite (b := false) (Evl.et_test (Evl.ev_op (Evl.ev_var rfl) Evl.ev_c rv_isN)) (fun z => nomatch z) (fun _ => EvP.tup (Evl.eu_tup (Evl.ea_cons (h.num (hp j rfl) (h.f TC.cl TC.letters cf_letters (Evl.ev_var rfl)) (Evl.ev_var rfl)) (Evl.ea_cons (Evl.ev_var rfl) Evl.ea_nil)) (by show 2 ≤ 100000; decide)) fun _ _ _ h => h)) fun t H1 e1 ht => ?_
      exact fin (.ref t) H1 e1 ⟨t, rfl, Evl.st_of ht⟩
end
end Ov


namespace Ov
open PySem PySem.Spec PyProof.Rows L2
open Evl (pss_cut tCut Ex Ev EvT EvL EvA EvU)
/-! ### Course: come, hear -/
def spCome (K : PySem.W.Frag) (CR CP CC : Addr) : Sp := fun vs H Q _ => ∃ (B : Hp) (A : CA) (m : CM) (i : Nat), vs = [.ref A.c, .int (i : Int)] ∧ CourseAt K CR CP CC B A m H ∧ m.WF ∧ m.came.length ≤ 5000 ∧ i < m.letters.length ∧ m.kindAt i ≠ ("other" : Str) ∧ ∀ H', CourseAt K CR CP CC B A (m.come i) H' → Q (ov (m.ruleFor i)) H'
def spHear (K : PySem.W.Frag) (CR CP CC : Addr) : Sp := fun vs H Q _ => ∃ (B : Hp) (A : CA) (m : CM) (i : Nat), vs = [.ref A.c, .int (i : Int)] ∧ CourseAt K CR CP CC B A m H ∧ m.WF ∧ i < m.answers.length ∧ ∀ H', CourseAt K CR CP CC B A (m.hear i) H' → Q (ov (m.ruleHear i)) H'
section
variable {K : PySem.W.Frag} {CR CP CC : Addr} {B : Hp} {A : CA} {m : CM} {H : Hp} {σ : L2.St} {ta tb te to : TE} {D : Ends} {tz : TS}
theorem WF_kind (hw : m.WF) {i : Nat} (hi : i < m.letters.length) (ho : m.kindAt i ≠ ("other" : Str)) : m.kindAt i ∈ letterKinds := by
  have e := List.getElem?_eq_getElem hi
  have h1 := (letter_at e).1
  rcases hw.kinds _ (List.getElem_mem hi) with z | z
  · rw [h1]
    exact z
  · exact absurd (h1.trans z) ho
theorem rule_deedsM_good {rs : List RuleD} (g : ∀ r ∈ rs, r.Good) (r : Option Nat) : Plain (deedsM rs r) ∧ (deedsM rs r).length ≤ 1000 := by
  cases r with
  | none => exact ⟨(fun x hx => nomatch hx), Nat.zero_le _⟩
  | some i =>
    show Plain (((rs[i]?).map RuleD.ds).getD []) ∧ (((rs[i]?).map RuleD.ds).getD []).length ≤ 1000
    cases e : rs[i]? with
    | none => exact ⟨(fun x hx => nomatch hx), Nat.zero_le _⟩
    | some r => exact ⟨(g r (List.mem_of_getElem? e)).pd, (g r (List.mem_of_getElem? e)).nd⟩
theorem s_dput {td ty tv : TE} {a : Addr} {k : Key} {v : V} {kvs : List (Key × V)} (hv : Ev tv σ H v) (hd : Ev td σ H (.ref a)) (hy : Ev ty σ H (kV k)) (ha : H a = some (.dK kvs)) (hl : kvs.length < sizeLine) (c : ∀ H1, Ex H H1 → D.nx σ (upd H1 a (.dK (putK kvs k v)))) : sDPut td ty tv D σ H :=
  hv H (Ex.refl _) _ fun H1 e1 => hd H1 e1 _ fun H2 e2 => hy H2 (e1.trans e2) _ fun H3 e3 => ⟨a, _, rfl, DPut.k ((e1.trans (e2.trans e3)) _ _ ha) hl, c H3 (e1.trans (e2.trans e3))⟩
theorem q_dput {td ty tv : TE} {a : Addr} {k : Key} {v : V} {kvs : List (Key × V)} (hv : Ev tv σ H v) (hd : Ev td σ H (.ref a)) (hy : Ev ty σ H (kV k)) (ha : H a = some (.dK kvs)) (hl : kvs.length < sizeLine) (c : ∀ H1, Ex H H1 → tz D σ (upd H1 a (.dK (putK kvs k v)))) : tSeq (sDPut td ty tv) tz D σ H :=
  s_dput (D := { D with nx := tz D }) hv hd hy ha hl c
theorem q_par {i j : Nat} {ta : TA} {x y : V} (h : EvA ta σ H [x, y]) (k : ∀ H1, Ex H H1 → tz D ((σ.set i (some x)).set j (some y)) H1) : tSeq (tPar i j ta) tz D σ H := h H (Ex.refl _) _ fun H1 e => ⟨x, y, rfl, k H1 e⟩
theorem CourseAt.standing (h : CourseAt K CR CP CC B A m H) {i : Nat} {p : Option Nat} (hi : i < m.letters.length) (hp : ∀ j, p = some j → j < m.letters.length) (ha : Ev ta σ H (.ref A.c)) (hb : Ev tb σ H (.int (i : Int))) (hc : Ev te σ H (ov p)) (no : (cf A m).lookup ("standing_to" : Str) = none) :
    Ev (tMeth CC "standing_to" (spStandingTo K CR CP CC) [] E0 ta (tCons tb (tCons te tNil))) σ H (.str (m.rel i p)) := fun H1 e1 Q q =>
  ha H1 e1 _ fun H2 e2 => ⟨A.c, A.dx, _, rfl, (h.ext (e1.trans e2)).obj, no, hb H2 (e1.trans e2) _ fun H3 e3 => hc H3 ((e1.trans e2).trans e3) _ fun H4 e4 =>
    ⟨B, A, m, i, p, rfl, h.ext (((e1.trans e2).trans e3).trans e4), hi, hp, fun H5 e5 => q H5 (((e2.trans e3).trans e4).trans e5)⟩⟩
theorem CourseAt.deeds (h : CourseAt K CR CP CC B A m H) {r : Option Nat} (hr : ∀ i, r = some i → i < m.rs.length) (ha : Ev ta σ H (.ref A.p)) (hb : Ev tb σ H (ov r)) : EvP (tCall (spDeedsM K CR CP) [] E0 (tCons ta (tCons tb tNil))) σ H (fun t H2 => SqT K H2 t ((deedsM m.rs r).map V.str)) := fun H1 e1 Q q =>
  ha H1 e1 _ fun H2 e2 => hb H2 (e1.trans e2) _ fun H3 e3 => ⟨A.p, m.ks, m.rs, r, rfl, h.plan.ex (h.ex.trans ((e1.trans e2).trans e3)), hr, fun t H4 e4 st => q t H4 ((e2.trans e3).trans e4) st⟩
end
theorem cf_nostanding {A : CA} {m : CM} : (cf A m).lookup ("standing_to" : Str) = none := by kernel_rfl
theorem cf_noshowing {A : CA} {m : CM} : (cf A m).lookup ("showing" : Str) = none := by kernel_rfl
section
variable {P : Program} {w : World} {K : PySem.W.Frag} {mg : Str → Option Value} {base : Heap} {a_LETTERS a_LETTER_TESTS a_LETTER_DEEDS a_ANSWER_TESTS a_ANSWER_DEEDS CR CP CC a_HOLDS : Addr} {tA tN tO : Tok}
theorem scCourseCome : FnScope ["self", "place", "kind", "to_whole", "to_own", "rule", "takes", "wipes"] ["self", "place"] (defScope sCourseCome) := ⟨rfl, rfl, rfl, by decide +kernel, rfl, by decide +kernel, by decide +kernel⟩
theorem scCourseHear : FnScope ["self", "answer", "level", "rule", "deeds"] ["self", "answer"] (defScope sCourseHear) := ⟨rfl, rfl, rfl, by decide +kernel, rfl, by decide +kernel, by decide +kernel⟩
theorem ok_come {f fSt fLR fE fD fW : Addr} {fd fdSt fdLR fdE fdD fdW : FuncData} (F : Fun K "come" "Course.come" sCourseCome f fd) (TC : TxC K mg CC tO)
    (M_standing_to : Meth K CC "standing_to" fSt) (G_standing_to : FnOk P w K mg base CX0 2 fSt fdSt ["self", "place", "part"] (spStandingTo K CR CP CC)) (b_standing_to : Binds K fdSt ["self", "place", "part"] [])
    (D_letter_rule : Df K mg "letter_rule" sLetterRule ["plan", "kind", "to_whole", "to_own"] fLR fdLR) (G_letter_rule : FnOk P w K mg base CX0 2 fLR fdLR ["plan", "kind", "to_whole", "to_own"] (spLetterRule K CR CP))
    (D_effect : Df K mg "effect" sEffect ["kind", "deeds"] fE fdE) (G_effect : FnOk P w K mg base CX0 2 fE fdE ["kind", "deeds"] (spEffect K))
    (D_deeds_of : Df K mg "deeds_of" sDeedsOf ["plan", "at"] fD fdD) (G_deeds_of : FnOk P w K mg base CX0 1 fD fdD ["plan", "at"] (spDeedsM K CR CP))
    (D_is_whole_kind : Df K mg "is_whole_kind" sIsWholeKind ["kind"] fW fdW) : FnOk P w K mg base CX0 4 f fd ["self", "place"] (spCome K CR CP CC) := by
  have G_is_whole_kind : FnOk P w K mg base CX0 1 fW fdW ["kind"] spWholeKind := ok_whole_kind D_is_whole_kind.F
  refine F.ok scCourseCome (fun vs H Q E h => ?_) (fun cdv A outer s H vs Q E hr h => ?_)
  · obtain ⟨B, A, m, i, rfl, _⟩ := h
    rfl
  · obtain ⟨B, A, m, i, rfl, h, hw, hz, hi, ho, q⟩ := h
    have hu := hu_of hr
    refine ⟨_, pss_cons (ps_set (i := 2) scCourseCome.nd rfl (.inl rfl) (pe_ix ix_tup (pe_ix ix_list (pe_fld (pv 0) rfl) (pv 1) (fun _ _ => rfl)) pe_int (fun _ _ => rfl)))
      (pss_cons (ps_par (i := 3) (j := 4) (by rfl) scCourseCome.nd rfl rfl (by decide) rfl rfl (pa_cons (pe_meth (pv 0) TC.cl M_standing_to G_standing_to (hr.mono (by decide)) b_standing_to .nil pass0 (pa_cons (pv 1) (pa_cons (pe_fld (pv 0) rfl) pa_nil))) (pa_cons (pe_meth (pv 0) TC.cl M_standing_to G_standing_to (hr.mono (by decide)) b_standing_to .nil pass0 (pa_cons (pv 1) (pa_cons (pe_fld (pv 0) rfl) pa_nil))) pa_nil)) (by rfl))
      (pss_cons (ps_set (i := 5) scCourseCome.nd rfl (.inl rfl) (pe_call G_letter_rule (hr.mono (by decide)) rfl D_letter_rule.g D_letter_rule.F.kp D_letter_rule.b .nil pass0 (pa_cons (pe_fld (pv 0) rfl) (pa_cons (pv 2) (pa_cons (pv 3) (pa_cons (pv 4) pa_nil))))))
      (pss_cons (ps_asg (pe_call G_effect (hr.mono (by decide)) rfl D_effect.g D_effect.F.kp D_effect.b .nil pass0 (pa_cons (pv 2) (pa_cons (pe_call G_deeds_of (hr.mono (by decide)) rfl D_deeds_of.g D_deeds_of.F.kp D_deeds_of.b .nil pass0 (pa_cons (pe_fld (pv 0) rfl) (pa_cons (pv 5) pa_nil))) pa_nil))) (pg_tup (by rfl) (pgs_cons (pg_name (i := 6) scCourseCome.nd rfl (Or.inl rfl)) (pgs_cons (pg_name (i := 7) scCourseCome.nd rfl (Or.inl rfl)) pgs_nil))))
      (pss_cut (ps_if (pt_truth (pv 7) (by intro _; rfl)) (pss_one (ps_fld (pv 0) pe_non rfl)) pss_nil)
      (pss_cut (ps_if (PW.pt (pw_and (pt_truth (pv 6) (by intro _; rfl)) (pw_and1 (pt_val (pe_call G_is_whole_kind (hr.mono (by decide)) rfl D_is_whole_kind.g D_is_whole_kind.F.kp D_is_whole_kind.b .nil pass0 (pa_cons (pv 2) pa_nil)))))) (pss_one (ps_fld (pv 0) (pv 1) rfl)) (pss_one (ps_if (pt_truth (pv 6) (by intro _; rfl)) (pss_one (ps_fld (pv 0) (pv 1) rfl)) pss_nil)))
      (pss_cons (ps_dput hu (pe_fld (pv 0) rfl) (pv 1) pe_bl rfl)
      (pss_one (ps_ret (pv 5))))))))), ?_⟩
    refine Evl.q_asg (v := .str (m.kindAt i)) (h.kind hi (h.f TC.cl TC.letters cf_letters (Evl.ev_var rfl)) (Evl.ev_var rfl)) fun H1 e1 => ?_
    have c1 := h.ext e1
    refine q_par (x := .str (m.rel i m.whole)) (y := .str (m.rel i m.own)) (Evl.ea_cons (c1.standing hi hw.whole (Evl.ev_var rfl) (Evl.ev_var rfl) (c1.f TC.cl TC.whole cf_whole (Evl.ev_var rfl)) cf_nostanding) (Evl.ea_cons (c1.standing hi hw.own (Evl.ev_var rfl) (Evl.ev_var rfl) (c1.f TC.cl TC.own cf_own (Evl.ev_var rfl)) cf_nostanding) Evl.ea_nil)) fun H2 e2 => ?_
    have c2 := c1.ext e2
    refine Evl.q_asg (v := ov (m.ruleFor i)) (ev_call (Evl.ea_cons (c2.f TC.cl TC.plan cf_plan (Evl.ev_var rfl)) (Evl.ea_cons (Evl.ev_var rfl) (Evl.ea_cons (Evl.ev_var rfl) (Evl.ea_cons (Evl.ev_var rfl) Evl.ea_nil)))) fun H3 e3 Q3 q3 => ⟨A.p, m.kindAt i, m.rel i m.whole, m.rel i m.own, m.ks, m.rs, rfl, h.plan.ex ((c2.ext e3).ex), WF_kind hw hi ho, hw.g, hw.hz, fun H4 e4 => q3 H4 e4⟩) fun H3 e3 => ?_
    have c3 := c2.ext e3
    obtain ⟨gd, ld⟩ := rule_deedsM_good hw.g (m.ruleFor i)
    refine q_put ⟨_, rfl, (c3.deeds (r := m.ruleFor i) (fun j e => fi_lt e) (c3.f TC.cl TC.plan cf_plan (Evl.ev_var rfl)) (Evl.ev_var rfl)) H3 (Ex.refl _) _ fun t H4 e4 st => ⟨m.kindAt i, t, _, rfl, st, gd, ld, fun p H5 e5 hp => ⟨p, _, rfl, Evl.st_of hp, rfl, _, _, rfl, _, _, rfl, rfl, ?_⟩⟩⟩
    have c5 := c3.ext (e4.trans e5)
    -- if wipes: own = None
    refine Evl.q_cut (M := fun σ' H' => σ' = [some (.ref A.c), some (.int (i : Int)), some (.str (m.kindAt i)), some (.str (m.rel i m.whole)), some (.str (m.rel i m.own)), some (ov (m.ruleFor i)), some (.bl (m.effFor i).1), some (.bl (m.effFor i).2)] ∧ CourseAt K CR CP CC B A (m.wiped (m.effFor i).2) H') ?_ (fun σ' H' hh => ?_)
    · refine Evl.s_when (b := (m.effFor i).2) (fun H6 e6 Q6 q6 => ⟨_, rfl, _, rfl, q6 H6 (Ex.refl _)⟩) (fun e H6 e6 => ?_) (fun e H6 e6 => ⟨rfl, ?_⟩)
      · refine s_cfld (c5.ext e6) TC.cl TC.own (pcf_own none) ⟨rfl, rfl, rfl, rfl, rfl, rfl, rfl, rfl, rfl⟩ Evl.ev_c (Evl.ev_var rfl) fun H7 c7 => ⟨rfl, ?_⟩
        rw [e]
        exact c7
      · rw [e]
        exact c5.ext e6
    · obtain ⟨rfl, c6⟩ := hh
      refine Evl.q_cut (M := fun σ' H' => σ' = [some (.ref A.c), some (.int (i : Int)), some (.str (m.kindAt i)), some (.str (m.rel i m.whole)), some (.str (m.rel i m.own)), some (ov (m.ruleFor i)), some (.bl (m.effFor i).1), some (.bl (m.effFor i).2)] ∧ CourseAt K CR CP CC B A ((m.wiped (m.effFor i).2).taken i (m.effFor i).1 (wholeKind (m.kindAt i))) H') ?_ (fun σ' H' hh => ?_)
      · have tk : ∀ (H6 : Hp), EvT (fun σ H Q => tVar 6 σ H fun x H' => ∃ k, TruV K x H' k ∧ Q k H') [some (.ref A.c), some (.int (i : Int)), some (.str (m.kindAt i)), some (.str (m.rel i m.whole)), some (.str (m.rel i m.own)), some (ov (m.ruleFor i)), some (.bl (m.effFor i).1), some (.bl (m.effFor i).2)] H6 (m.effFor i).1 := fun H6 H7 e7 Q7 q7 => ⟨_, rfl, _, rfl, q7 H7 (Ex.refl _)⟩
        refine Evl.s_if (b := (m.effFor i).1 && wholeKind (m.kindAt i)) (Evl.et_and (tk _) (fun _ => Evl.et_B (ev_call (Evl.ea_cons (Evl.ev_var rfl) Evl.ea_nil) fun H7 e7 Q7 q7 => ⟨_, rfl, fun H8 e8 => q7 H8 e8⟩))) (fun e H7 e7 => ?_) (fun e H7 e7 => ?_)
        · refine s_cfld (c6.ext e7) TC.cl TC.whole (pcf_whole (some i)) ⟨rfl, rfl, rfl, rfl, rfl, rfl, rfl, rfl, rfl⟩ (Evl.ev_var rfl) (Evl.ev_var rfl) fun H8 c8 => ⟨rfl, ?_⟩
          unfold CM.taken
          rw [if_pos e]
          exact c8
        · refine Evl.s_when (b := (m.effFor i).1) (tk _) (fun e2 H8 e8 => ?_) (fun e2 H8 e8 => ⟨rfl, ?_⟩)
          · refine s_cfld ((c6.ext e7).ext e8) TC.cl TC.own (pcf_own (some i)) ⟨rfl, rfl, rfl, rfl, rfl, rfl, rfl, rfl, rfl⟩ (Evl.ev_var rfl) (Evl.ev_var rfl) fun H9 c9 => ⟨rfl, ?_⟩
            unfold CM.taken
            rw [if_neg (by rw [e]; decide), if_pos e2]
            exact c9
          · unfold CM.taken
            rw [if_neg (by rw [e]; decide), if_neg (by rw [e2]; decide)]
            exact (c6.ext e7).ext e8
      · obtain ⟨rfl, c7⟩ := hh
        have ec : ((m.wiped (m.effFor i).2).taken i (m.effFor i).1 (wholeKind (m.kindAt i))).came = m.came := by
          unfold CM.taken CM.wiped
          split <;> split <;> (try split) <;> rfl
        obtain ⟨kvs, k1, k2, k3⟩ := c7.cm
        rw [ec] at k2
        refine q_dput (k := Sum.inl (i : Int)) (v := .bl true) Evl.ev_c (c7.f TC.cl TC.came cf_came (Evl.ev_var rfl)) (Evl.ev_var rfl) k1 (Evl.sz_lt (by omega)) fun H8 e8 => ?_
        refine Evl.s_ret (v := ov (m.ruleFor i)) (Evl.ev_var rfl) fun H9 e9 => q H9 ?_
        exact ((c7.ext e8).putcm (e8 _ _ k1) i (.bl true)).ext e9
theorem ok_hear {f fAR fD : Addr} {fd fdAR fdD : FuncData} (F : Fun K "hear" "Course.hear" sCourseHear f fd) (TC : TxC K mg CC tO)
    (D_answer_rule : Df K mg "answer_rule" sAnswerRule ["plan", "level"] fAR fdAR) (G_answer_rule : FnOk P w K mg base CX0 1 fAR fdAR ["plan", "level"] (spAnswerRule K CR CP))
    (D_deeds_of : Df K mg "deeds_of" sDeedsOf ["plan", "at"] fD fdD) (G_deeds_of : FnOk P w K mg base CX0 1 fD fdD ["plan", "at"] (spDeedsM K CR CP)) : FnOk P w K mg base CX0 2 f fd ["self", "answer"] (spHear K CR CP CC) := by
  refine F.ok scCourseHear (fun vs H Q E h => ?_) (fun cdv A outer s H vs Q E hr h => ?_)
  · obtain ⟨B, A, m, i, rfl, _⟩ := h
    rfl
  · obtain ⟨B, A, m, i, rfl, h, hw, hi, q⟩ := h
    refine ⟨_, pss_cons (ps_set (i := 2) scCourseHear.nd rfl (.inl rfl) (pe_cmpR op_eq (pe_ix ix_tup (pe_ix ix_list (pe_fld (pv 0) rfl) (pe_ix ix_list (pe_fld (pv 0) rfl) (pv 1) (fun _ _ => rfl)) (fun _ _ => rfl)) pe_int (fun _ _ => rfl)) (pe_ix ix_tup (pe_ix ix_list (pe_fld (pv 0) rfl) (pe_un un_neg pe_int) (fun _ _ => rfl)) pe_int (fun _ _ => rfl)) (nomark _)))
      (pss_cons (ps_set (i := 3) scCourseHear.nd rfl (.inl rfl) (pe_call G_answer_rule (hr.mono (by decide)) rfl D_answer_rule.g D_answer_rule.F.kp D_answer_rule.b .nil pass0 (pa_cons (pe_fld (pv 0) rfl) (pa_cons (pv 2) pa_nil))))
      (pss_cons (ps_set (i := 4) scCourseHear.nd rfl (.inl rfl) (pe_call G_deeds_of (hr.mono (by decide)) rfl D_deeds_of.g D_deeds_of.F.kp D_deeds_of.b .nil pass0 (pa_cons (pe_fld (pv 0) rfl) (pa_cons (pv 3) pa_nil))))
      (pss_cut (ps_if (pt_truth (pv 4) (by intro _; rfl)) (pss_one (ps_fld (pv 0) (pe_ifExp (pt_cmpR op_eq (pe_ix ix_tup (pv 4) (pe_un un_neg pe_int) (fun _ _ => rfl)) pe_str (nomark _)) (pv 1) pe_non) rfl)) pss_nil)
      (pss_one (ps_ret (pv 3)))))), ?_⟩
    have ha : m.ansAt i < m.letters.length := by
      unfold CM.ansAt
      rw [List.getElem?_eq_getElem hi]
      exact hw.ans _ (List.getElem_mem hi)
    have la : Ev (tOp (rIxL K) (tFld K (tVar 0) "answers") (tVar 1)) (L2.start ["self", "answer", "level", "rule", "deeds"] [.ref A.c, .int (i : Int)]) H (.int (m.ansAt i : Int)) := by
      refine Evl.ev_op (h.f TC.cl TC.answers cf_answers (Evl.ev_var rfl)) (Evl.ev_var rfl) (Evl.rv_ixL (Evl.sq_of h.an) (atI_nat ?_))
      rw [List.getElem?_map, List.getElem?_eq_getElem hi]
      unfold CM.ansAt
      rw [List.getElem?_eq_getElem hi]
      rfl
    refine Evl.q_asg (v := .bl (m.levelFor i)) (Evl.ev_is (Evl.ev_op (h.num ha (h.f TC.cl TC.letters cf_letters (Evl.ev_var rfl)) la) (h.last hw (h.f TC.cl TC.letters cf_letters (Evl.ev_var rfl)) (Evl.ev_un Evl.ev_c Evl.ru_neg)) (Evl.rv_eq rfl)) ?_) fun H1 e1 => ?_
    · exact congrArg V.bl (decide_eq_decide.mpr ⟨fun z => V.int.inj z, fun z => congrArg V.int z⟩)
    have c1 := h.ext e1
    refine Evl.q_asg (v := ov (m.ruleHear i)) (ev_call (Evl.ea_cons (c1.f TC.cl TC.plan cf_plan (Evl.ev_var rfl)) (Evl.ea_cons (Evl.ev_var rfl) Evl.ea_nil)) fun H3 e3 Q3 q3 => ⟨A.p, m.levelFor i, m.ks, m.rs, rfl, h.plan.ex ((c1.ext e3).ex), hw.g, hw.hz, fun H4 e4 => q3 H4 e4⟩) fun H3 e3 => ?_
    have c3 := c1.ext e3
    refine q_asgP (c3.deeds (r := m.ruleHear i) (fun j e => fi_lt e) (c3.f TC.cl TC.plan cf_plan (Evl.ev_var rfl)) (Evl.ev_var rfl)) fun t H4 e4 st => ?_
    have c4 := c3.ext e4
    refine Evl.q_cut (M := fun σ' H' => σ' = [some (.ref A.c), some (.int (i : Int)), some (.bl (m.levelFor i)), some (ov (m.ruleHear i)), some (.ref t)] ∧ CourseAt K CR CP CC B A (m.hear i) H') ?_ (fun σ' H' hh => ?_)
    · refine Evl.s_when (b := !(deedsM m.rs (m.ruleHear i)).isEmpty) (fun H5 e5 Q5 q5 => ⟨_, rfl, _, .inr (.inl ⟨_, Evl.ex_t e5 st, rfl⟩), ?_⟩) (fun e H6 e6 => ?_) (fun e H6 e6 => ⟨rfl, ?_⟩)
      · rw [List.isEmpty_map]
        exact q5 H5 (Ex.refl _)
      · have hne : deedsM m.rs (m.ruleHear i) ≠ [] := by simpa using e
        obtain ⟨ds, d, ed⟩ : ∃ ds d, deedsM m.rs (m.ruleHear i) = ds ++ [d] := by
          rcases List.eq_nil_or_concat (deedsM m.rs (m.ruleHear i)) with z | ⟨ds, d, z⟩
          · exact absurd z hne
          · exact ⟨ds, d, by rw [z, List.concat_eq_append]⟩
        have eh : m.heardCount i = if d = ("count" : Str) then some i else none := by
          unfold CM.heardCount
          rw [ed, List.getLastD_concat]
        have st6 := Evl.ex_t e6 st
        refine s_cfld (c4.ext e6) TC.cl TC.counted (pcf_counted (m.heardCount i)) ⟨rfl, rfl, rfl, rfl, rfl, rfl, rfl, rfl, rfl⟩ (Evl.ev_if (b := decide (d = ("count" : Str))) (Evl.et_is (Evl.et_test (Evl.ev_op (Evl.ev_op (Evl.ev_var rfl) (Evl.ev_un Evl.ev_c Evl.ru_neg) (Evl.rv_ixT (v := .str d) st6 ?_)) Evl.ev_c (Evl.rv_eq rfl))) (eq_str _ _)) (fun e2 => ?_) (fun e2 => ?_)) (Evl.ev_var rfl) fun H7 c7 => ⟨rfl, ?_⟩
        · rw [ed, List.map_append]
          exact atI_last _ _
        · rw [eh, if_pos (of_decide_eq_true e2)]
          exact Evl.ev_var rfl
        · rw [eh, if_neg (of_decide_eq_false e2)]
          exact Evl.ev_c
        · unfold CM.hear
          rw [if_neg hne]
          exact c7
      · have he : deedsM m.rs (m.ruleHear i) = [] := by simpa using e
        unfold CM.hear
        rw [if_pos he]
        exact c4.ext e6
    · obtain ⟨rfl, c5⟩ := hh
      exact Evl.s_ret (v := ov (m.ruleHear i)) (Evl.ev_var rfl) fun H9 e9 => q H9 (c5.ext e9)
end
end Ov


namespace Ov
open PySem PySem.Spec PyProof.Rows L2
open Evl (pss_cut tCut Ex Ev EvT EvL EvA EvU)
/-! ### Course: look, is_back, judge -/
def spLook (K : PySem.W.Frag) (CR CP CC : Addr) : Sp := fun vs H Q _ => ∃ (B : Hp) (A : CA) (m : CM), vs = [.ref A.c] ∧ CourseAt K CR CP CC B A m H ∧ m.WF ∧ m.shows.length ≤ 5000 ∧ m.shown.length ≤ 5000 ∧ ∀ H', CourseAt K CR CP CC B A m.look H' → Q .non H'
def spIsBack (K : PySem.W.Frag) (CR CP CC : Addr) : Sp := fun vs H Q _ => ∃ (B : Hp) (A : CA) (m : CM) (p : Option Nat), vs = [.ref A.c, ov p] ∧ CourseAt K CR CP CC B A m H ∧ (∀ i, p = some i → i < m.letters.length) ∧ ∀ H', Ex H H' → Q (.bl (m.isBack p)) H'
def spJudge (K : PySem.W.Frag) (CR CP CC : Addr) : Sp := fun vs H Q _ => ∃ (B : Hp) (A : CA) (m : CM) (hd : Option Nat), vs = [.ref A.c, ov hd] ∧ CourseAt K CR CP CC B A m H ∧ m.WF ∧ m.goals.length ≤ 5000 ∧ ∀ H', CourseAt K CR CP CC B A (m.judge hd) H' → Q .non H'
theorem cf_noback {A : CA} {m : CM} : (cf A m).lookup ("is_back" : Str) = none := by kernel_rfl
theorem lt_int (i o : Nat) : decide ((i : Int) > (o : Int)) = decide (i > o) := decide_eq_decide.mpr ⟨fun h => by omega, fun h => by omega⟩
theorem lt_int2 (i o : Nat) : decide ((i : Int) < (o : Int)) = decide (i < o) := decide_eq_decide.mpr ⟨fun h => by omega, fun h => by omega⟩
theorem scal_ov (p : Option Nat) (n : Int) : scal (ov p) (.int n) = true := by cases p <;> rfl
theorem ov_eq (p : Option Nat) (n : Nat) : decide (ov p = .int (n : Int)) = decide (p = some n) := by
  cases p with
  | none => rfl
  | some i => exact decide_eq_decide.mpr ⟨fun z => by have := V.int.inj z; rw [Int.ofNat_inj.mp this], fun z => by cases z; rfl⟩
section
variable {K : PySem.W.Frag} {CR CP CC : Addr} {B : Hp} {A : CA} {m : CM} {H : Hp} {σ : L2.St} {ta tb te to : TE} {tt : TT} {D : Ends} {tz : TS}
theorem last_ov {l : List (Option Nat)} (h : 0 < l.length) : atI (l.map ov) (-1) = some (ov (l.getLastD none)) := by
  rcases List.eq_nil_or_concat l with rfl | ⟨ys, y, rfl⟩
  · exact absurd h (Nat.lt_irrefl _)
  · rw [List.concat_eq_append, List.map_append, List.getLastD_concat]
    exact atI_last _ _
theorem goals_len {kvs : List (Key × V)} {gs : List Str} (h : kvs.map (·.1) = gs.map Sum.inr) : kvs.length = gs.length := by
  have := congrArg List.length h
  rw [List.length_map, List.length_map] at this
  exact this
theorem s_goal (h : CourseAt K CR CP CC B A m H) (cl : Cls K CC) (ng : NoAttr K CC "goals") {b : Bool} {g : Str} (hz : m.goals.length ≤ 6000) (hd : Ev (tFld K (tVar 0) "goals") σ H (.ref A.gl)) (ht : EvT tt σ H b) (k : ∀ H1, CourseAt K CR CP CC B A (m.addG b g) H1 → D.nx σ H1) :
    tIfS tt (sDPut (tFld K (tVar 0) "goals") (tC (V.str g)) (tC (V.bl true))) tNext D σ H := by
  refine Evl.s_when (b := b) ht (fun e H1 e1 => ?_) (fun e H1 e1 => k H1 ?_)
  · have c1 := h.ext e1
    obtain ⟨kvs, k1, k2⟩ := c1.gl
    refine s_dput (k := Sum.inr g) (v := .bl true) Evl.ev_c (hd.mono e1) Evl.ev_c k1 (Evl.sz_lt (by rw [goals_len k2]; omega)) fun H2 e2 => k _ ?_
    rw [e]
    exact (c1.ext e2).putgl (e2 _ _ k1) g (.bl true)
  · rw [e]
    exact h.ext e1
theorem addG_len (b : Bool) (g : Str) : (m.addG b g).goals.length ≤ m.goals.length + 1 := by
  unfold CM.addG
  split
  · split
    · omega
    · show (m.goals ++ [g]).length ≤ _
      rw [List.length_append]
      exact Nat.le_refl _
  · omega
structure CM.SameG (m n : CM) : Prop where
  l : n.letters = m.letters
  s : n.shown = m.shown
  o : n.off = m.off
  c : n.counted = m.counted
  a : n.answers = m.answers
  w : n.newest = m.newest
  z : n.goals.length ≤ m.goals.length + 1
theorem addG_same (b : Bool) (g : Str) : m.SameG (m.addG b g) := by
  have z := addG_len (m := m) b g
  unfold CM.addG at z ⊢
  split at z
  · rename_i hb
    rw [if_pos hb] at *
    split at z
    · rename_i h2
      rw [if_pos h2]
      exact ⟨rfl, rfl, rfl, rfl, rfl, rfl, z⟩
    · rename_i h2
      rw [if_neg h2]
      exact ⟨rfl, rfl, rfl, rfl, rfl, rfl, z⟩
  · rename_i hb
    rw [if_neg hb]
    exact ⟨rfl, rfl, rfl, rfl, rfl, rfl, z⟩
theorem et_din {l : List Nat} {i : Nat} {a : Addr} {b : Bool} (hd : Ev te σ H (.ref a)) (hy : Ev ta σ H (.int (i : Int))) (h : ∀ H1, Ex H H1 → ∃ kvs, H1 a = some (.dK kvs) ∧ (valV kvs (Sum.inl (i : Int))).isSome = b) : EvT (tB (tDIn ta te)) σ H b := fun H1 e1 Q q =>
  hy H1 e1 _ fun H2 e2 => hd H2 (e1.trans e2) _ fun H3 e3 => by
    obtain ⟨kvs, k1, k2⟩ := h H3 ((e1.trans e2).trans e3)
    exact ⟨a, _, rfl, DGet.k (k := Sum.inl (i : Int)) k1, _, rfl, by rw [k2]; exact q H3 (e2.trans e3)⟩
end
section
variable {P : Program} {w : World} {K : PySem.W.Frag} {mg : Str → Option Value} {base : Heap} {a_LETTERS a_LETTER_TESTS a_LETTER_DEEDS a_ANSWER_TESTS a_ANSWER_DEEDS CR CP CC a_HOLDS : Addr} {tA tN tO : Tok}
theorem scCourseLook : FnScope ["self", "place"] ["self"] (defScope sCourseLook) := ⟨rfl, rfl, rfl, by decide +kernel, rfl, by decide +kernel, by decide +kernel⟩
theorem scCourseIsBack : FnScope ["self", "place"] ["self", "place"] (defScope sCourseIsBack) := ⟨rfl, rfl, rfl, by decide +kernel, rfl, by decide +kernel, by decide +kernel⟩
theorem scCourseJudge : FnScope ["self", "heard", "place", "newest"] ["self", "heard"] (defScope sCourseJudge) := ⟨rfl, rfl, rfl, by decide +kernel, rfl, by decide +kernel, by decide +kernel⟩
theorem ok_look {f fS : Addr} {fd fdS : FuncData} (F : Fun K "look" "Course.look" sCourseLook f fd) (TC : TxC K mg CC tO) (M_showing : Meth K CC "showing" fS) (G_showing : FnOk P w K mg base CX0 1 fS fdS ["self"] (spShowing K CR CP CC)) (b_showing : Binds K fdS ["self"] []) :
    FnOk P w K mg base CX0 2 f fd ["self"] (spLook K CR CP CC) := by
  refine F.ok scCourseLook (fun vs H Q E h => ?_) (fun cdv A outer s H vs Q E hr h => ?_)
  · obtain ⟨B, A, m, rfl, _⟩ := h
    rfl
  · obtain ⟨B, A, m, rfl, h, hw, hz, hz2, q⟩ := h
    have hu := hu_of hr
    refine ⟨_, pss_cons (ps_set (i := 1) scCourseLook.nd rfl (.inl rfl) (pe_meth0 (pv 0) TC.cl M_showing G_showing (hr.mono (by decide)) b_showing .nil pass0))
      (pss_cons (ps_expr (pe_bm PySem.F.plainAttrs_list PySem.F.slot_list_append PySem.F.type_list_append mt_append (pe_fld (pv 0) rfl) (pa_cons (pv 1) pa_nil)))
      (pss_cons (ps_if (pt_cmpR op_isN (pv 1) pe_non (nomark _)) (pss_one ps_retN) pss_nil)
      (pss_cons (ps_dput hu (pe_fld (pv 0) rfl) (pv 1) pe_bl rfl)
      (pss_one (ps_if (PW.pt (pw_and (pt_cmpR op_in_seq (pe_ix ix_tup (pe_ix ix_list (pe_fld (pv 0) rfl) (pv 1) (fun _ _ => rfl)) pe_int (fun _ _ => rfl)) (pe_tup (pa_cons pe_str (pa_cons pe_str pa_nil))) (by rfl)) (pw_and1 (PW.pt (pw_or (pt_cmpR op_isN (pe_fld (pv 0) rfl) pe_non (nomark _)) (pw_or1 (pt_cmpR op_gt (pv 1) (pe_fld (pv 0) rfl) (nomark _)))))))) (pss_one (ps_fld (pv 0) (pv 1) rfl)) pss_nil))))), ?_⟩
    refine Evl.q_asg (v := ov m.showing) (fun H1 e1 Q1 q1 => ⟨_, rfl, A.c, A.dx, _, rfl, (h.ext e1).obj, cf_noshowing, B, A, m, rfl, h.ext e1, fun H2 e2 => q1 H2 e2⟩) fun H1 e1 => ?_
    have c1 := h.ext e1
    refine Evl.q_app c1.sw (c1.f TC.cl TC.shows cf_shows (Evl.ev_var rfl)) (Evl.ev_var rfl) (by rw [List.length_map]; omega) fun H2 e2 => ?_
    have c2 : CourseAt K CR CP CC B A m.looked _ := (c1.ext e2).putsw m.showing
    cases es : m.showing with
    | none =>
      refine Evl.q_when (b := true) (Evl.et_test (Evl.ev_op (Evl.ev_var rfl) Evl.ev_c rv_isN)) (fun _ H3 e3 => ?_) (fun z => nomatch z)
      have el : m.look = m.looked := by
        unfold CM.look
        rw [es]
      refine q H3 ?_
      rw [el]
      rw [es] at c2
      exact c2.ext e3
    | some i =>
      rw [es] at c2
      have hi := CM.showing_lt hw es
      have el : m.look = (m.looked.seen i).offed i := by
        unfold CM.look
        rw [es]
      refine Evl.q_when (b := false) (Evl.et_test (Evl.ev_op (Evl.ev_var rfl) Evl.ev_c rv_isN)) (fun z => nomatch z) (fun _ H3 e3 => ?_)
      have c3 := c2.ext e3
      obtain ⟨kvs, k1, k2, k3⟩ := c3.sh
      refine q_dput (k := Sum.inl (i : Int)) (v := .bl true) Evl.ev_c (c3.f TC.cl TC.shown cf_shown (Evl.ev_var rfl)) (Evl.ev_var rfl) k1 (Evl.sz_lt (Nat.lt_of_le_of_lt k2 (by show m.shown.length < 100000; omega))) fun H4 e4 => ?_
      have c4 : CourseAt K CR CP CC B A (m.looked.seen i) _ := (c3.ext e4).putsh (e4 _ _ k1) i (.bl true)
      refine Evl.s_when (b := (m.looked.seen i).isStop i && (m.looked.seen i).overOff i) (Evl.et_and (Evl.et_test (Evl.ev_is (Evl.ev_inU (xs := (["stop", "off"] : List Str).map V.str) (c4.kind hi (c4.f TC.cl TC.letters cf_letters (Evl.ev_var rfl)) (Evl.ev_var rfl)) (Evl.eu_tup (Evl.ea_cons Evl.ev_c (Evl.ea_cons Evl.ev_c Evl.ea_nil)) (by show 2 ≤ 100000; decide)) rfl (flat_strs _)) (by rw [inV_strs]; rfl))) (fun _ => ?_)) (fun e H5 e5 => ?_) (fun e H5 e5 => q H5 ?_)
      · refine Evl.et_is (Evl.et_or (a := decide ((m.looked.seen i).off = none)) (Evl.et_is (Evl.et_test (Evl.ev_op (c4.f TC.cl TC.off cf_off (Evl.ev_var rfl)) Evl.ev_c rv_isN)) (ov_non _)) (b := (m.looked.seen i).overOff i) (fun ho => ?_)) ?_
        · cases eo : (m.looked.seen i).off with
          | none =>
            rw [eo] at ho
            cases ho
          | some o =>
            refine Evl.et_is (Evl.et_test (Evl.ev_op (Evl.ev_var rfl) (Evl.ev_is (c4.f TC.cl TC.off cf_off (Evl.ev_var rfl)) (ov_some eo)) Evl.rv_I0)) ?_
            unfold CM.overOff
            rw [eo]
            exact lt_int _ _
        · unfold CM.overOff
          cases (m.looked.seen i).off <;> rfl
      · refine s_cfld (c4.ext e5) TC.cl TC.off (pcf_off (some i)) ⟨rfl, rfl, rfl, rfl, rfl, rfl, rfl, rfl, rfl⟩ (Evl.ev_var rfl) (Evl.ev_var rfl) fun H6 c6 => q H6 ?_
        rw [el]
        unfold CM.offed
        rw [if_pos e]
        exact c6
      · rw [el]
        unfold CM.offed
        rw [if_neg (by rw [e]; decide)]
        exact c4.ext e5
theorem ok_is_back {f : Addr} {fd : FuncData} (F : Fun K "is_back" "Course.is_back" sCourseIsBack f fd) (TC : TxC K mg CC tO) : FnOk P w K mg base CX0 1 f fd ["self", "place"] (spIsBack K CR CP CC) := by
  refine F.ok scCourseIsBack (fun vs H Q E h => ?_) (fun cdv A outer s H vs Q E hr h => ?_)
  · obtain ⟨B, A, m, p, rfl, _⟩ := h
    rfl
  · obtain ⟨B, A, m, p, rfl, h, hp, q⟩ := h
    refine ⟨_, pss_cons (ps_if (PW.pt (pw_or (pt_cmpR op_isN (pv 1) pe_non (nomark _)) (pw_or1 (pt_cmpR op_isN (pe_fld (pv 0) rfl) pe_non (nomark _))))) (pss_one (ps_ret pe_bl)) pss_nil)
      (pss_one (ps_ret (pe_and (pe_cmpR op_in_seq (pe_ix ix_tup (pe_ix ix_list (pe_fld (pv 0) rfl) (pv 1) (fun _ _ => rfl)) pe_int (fun _ _ => rfl)) (pe_tup (pa_cons pe_str (pa_cons pe_str pa_nil))) (by rfl)) (pe_one (pe_cmpR op_lt (pv 1) (pe_fld (pv 0) rfl) (nomark _)))))), ?_⟩
    cases p with
    | none => exact Evl.q_when (b := true) (Evl.et_or (a := true) (b := true) (Evl.et_test (Evl.ev_op (Evl.ev_var rfl) Evl.ev_c rv_isN)) (fun z => nomatch z)) (fun _ H1 e1 => Evl.s_ret (v := .bl false) Evl.ev_c fun H2 e2 => q H2 (e1.trans e2)) (fun z => nomatch z)
    | some i =>
      have t1 : EvT (tTest (tOp (fun x y H Q => y = .non ∧ Q (.bl (decide (x = .non))) H) (tVar 1) (tC .non))) (L2.start ["self", "place"] [.ref A.c, ov (some i)]) H false := Evl.et_test (Evl.ev_op (Evl.ev_var rfl) Evl.ev_c rv_isN)
      have t2 : EvT (tTest (tOp (fun x y H Q => y = .non ∧ Q (.bl (decide (x = .non))) H) (tFld K (tVar 0) "called_off") (tC .non))) (L2.start ["self", "place"] [.ref A.c, ov (some i)]) H (decide (m.off = none)) := Evl.et_is (Evl.et_test (Evl.ev_op (h.f TC.cl TC.off cf_off (Evl.ev_var rfl)) Evl.ev_c rv_isN)) (ov_non _)
      cases eo : m.off with
      | none =>
        rw [eo] at t2
        refine Evl.q_when (b := true) (Evl.et_or t1 (fun _ => t2)) (fun _ H1 e1 => Evl.s_ret (v := .bl false) Evl.ev_c fun H2 e2 => ?_) (fun z => nomatch z)
        have q2 := q H2 (e1.trans e2)
        unfold CM.isBack at q2
        rw [eo] at q2
        exact q2
      | some o =>
        rw [eo] at t2
        refine Evl.q_when (b := false) (Evl.et_or t1 (fun _ => t2)) (fun z => nomatch z) (fun _ H1 e1 => ?_)
        have c1 := h.ext e1
        refine Evl.s_ret (v := .bl (m.isBack (some i))) (Evl.ev_is (Evl.ev_andV (a := m.isAsk i) (b := decide (i < o)) (Evl.ev_is (Evl.ev_inU (xs := (["ask", "day"] : List Str).map V.str) (c1.kind (hp i rfl) (c1.f TC.cl TC.letters cf_letters (Evl.ev_var rfl)) (Evl.ev_var rfl)) (Evl.eu_tup (Evl.ea_cons Evl.ev_c (Evl.ea_cons Evl.ev_c Evl.ea_nil)) (by show 2 ≤ 100000; decide)) rfl (flat_strs _)) (by rw [inV_strs]; rfl)) (fun _ => Evl.ev_is (Evl.ev_op (Evl.ev_var rfl) (Evl.ev_is (c1.f TC.cl TC.off cf_off (Evl.ev_var rfl)) (ov_some eo)) Evl.rv_I0) (congrArg V.bl (lt_int2 _ _)))) ?_) fun H2 e2 => q H2 (e1.trans e2)
        unfold CM.isBack
        rw [eo]
theorem ok_judge {f fB : Addr} {fd fdB : FuncData} (F : Fun K "judge" "Course.judge" sCourseJudge f fd) (TC : TxC K mg CC tO) (M_is_back : Meth K CC "is_back" fB) (G_is_back : FnOk P w K mg base CX0 1 fB fdB ["self", "place"] (spIsBack K CR CP CC)) (b_is_back : Binds K fdB ["self", "place"] []) :
    FnOk P w K mg base CX0 2 f fd ["self", "heard"] (spJudge K CR CP CC) := by
  refine F.ok scCourseJudge (fun vs H Q E h => ?_) (fun cdv A outer s H vs Q E hr h => ?_)
  · obtain ⟨B, A, m, hd, rfl, _⟩ := h
    rfl
  · obtain ⟨B, A, m, hd, rfl, h, hw, hz, q⟩ := h
    have hu := hu_of hr
    refine ⟨_, pss_cons (ps_par (i := 2) (j := 3) (by rfl) scCourseJudge.nd rfl rfl (by decide) rfl rfl (pa_cons (pe_ix ix_list (pe_fld (pv 0) rfl) (pe_un un_neg pe_int) (fun _ _ => rfl)) (pa_cons (pe_fld (pv 0) rfl) pa_nil)) (by rfl))
      (pss_cut (ps_if (PW.pt (pw_and (pt_cmp (pc_din hu (pv 3) (pe_fld (pv 0) rfl))) (pw_and1 (pt_cmpR op_ne (pv 2) (pv 3) (nomark _))))) (pss_one (ps_dput hu (pe_fld (pv 0) rfl) pe_str pe_bl rfl)) pss_nil)
      (pss_cut (ps_if (PW.pt (pw_and (pt_cmpR op_eq (pe_ix ix_tup (pe_ix ix_list (pe_fld (pv 0) rfl) (pv 3) (fun _ _ => rfl)) pe_int (fun _ _ => rfl)) pe_str (nomark _)) (pw_and (pt_cmp (pc_din hu (pv 3) (pe_fld (pv 0) rfl))) (pw_and1 (pt_cmpR op_ne (pv 2) (pv 3) (nomark _)))))) (pss_one (ps_dput hu (pe_fld (pv 0) rfl) pe_str pe_bl rfl)) pss_nil)
      (pss_cut (ps_if (pt_val (pe_meth (pv 0) TC.cl M_is_back G_is_back (hr.mono (by decide)) b_is_back .nil pass0 (pa_cons (pv 2) pa_nil))) (pss_one (ps_dput hu (pe_fld (pv 0) rfl) pe_str pe_bl rfl)) pss_nil)
      (pss_cut (ps_if (PW.pt (pw_and (pt_cmpR op_notN (pe_fld (pv 0) rfl) pe_non (nomark _)) (pw_and1 (pt_cmpR op_ne (pe_ix ix_list (pe_fld (pv 0) rfl) (pe_fld (pv 0) rfl) (fun _ _ => rfl)) (pv 3) (nomark _))))) (pss_one (ps_dput hu (pe_fld (pv 0) rfl) pe_str pe_bl rfl)) pss_nil)
      (pss_one (ps_if (PW.pt (pw_and (pt_cmpR op_eq (pv 1) (pv 3) (nomark _)) (pw_and1 (pt_cmpR op_isN (pe_fld (pv 0) rfl) pe_non (nomark _))))) (pss_one (ps_dput hu (pe_fld (pv 0) rfl) pe_str pe_bl rfl)) pss_nil)))))), ?_⟩
    refine q_par (x := ov m.view) (y := .int (m.newest : Int)) (Evl.ea_cons (Evl.ev_op (h.f TC.cl TC.shows cf_shows (Evl.ev_var rfl)) (Evl.ev_un Evl.ev_c Evl.ru_neg) (Evl.rv_ixL (Evl.sq_of h.sw) (last_ov hw.sne))) (Evl.ea_cons (h.f TC.cl TC.newest cf_newest (Evl.ev_var rfl)) Evl.ea_nil)) fun H1 e1 => ?_
    have c1 := h.ext e1
    let σ0 : L2.St := [some (.ref A.c), some (ov hd), some (ov m.view), some (.int (m.newest : Int))]
    have gl : ∀ {n : CM} {H1 : Hp}, CourseAt K CR CP CC B A n H1 → Ev (tFld K (tVar 0) "goals") σ0 H1 (.ref A.gl) := fun c => c.f TC.cl TC.goals cf_goals (Evl.ev_var rfl)
    have vn : ∀ (H1 : Hp), EvT (tTest (tOp rNe (tVar 2) (tVar 3))) σ0 H1 (!decide (m.view = some m.newest)) := fun H1 => Evl.et_is (Evl.et_test (Evl.ev_op (Evl.ev_var rfl) (Evl.ev_var rfl) (Evl.rv_ne (scal_ov _ _)))) (by rw [ov_eq])
    have vw : ∀ i, m.view = some i → i < m.letters.length := fun i e => by
      refine hw.shows i ?_
      rw [← e]
      rcases List.eq_nil_or_concat m.shows with z | ⟨ys, y, z⟩
      · have := hw.sne
        rw [z] at this
        exact absurd this (Nat.lt_irrefl _)
      · unfold CM.view
        rw [z, List.concat_eq_append, List.getLastD_concat]
        exact List.mem_append_right _ (List.mem_singleton.mpr rfl)
    -- elder
    refine Evl.q_cut (M := fun σ' H' => σ' = σ0 ∧ CourseAt K CR CP CC B A (m.addG m.gElder "elder") H') (s_goal c1 TC.cl TC.goals (by omega) (gl c1) (Evl.et_and (et_din (l := m.came) (c1.f TC.cl TC.came cf_came (Evl.ev_var rfl)) (Evl.ev_var rfl) fun H2 e2 => ?_) (fun _ => vn _)) fun H2 c2 => ⟨rfl, c2⟩) (fun σ' H' hh => ?_)
    · obtain ⟨kvs, k1, k2, k3⟩ := (c1.ext e2).cm
      exact ⟨kvs, k1, k3 _⟩
    obtain ⟨rfl, c2⟩ := hh
    -- lost
    have l2 := addG_len (m := m) m.gElder "elder"
    have s2 : (m.addG m.gElder "elder").shown = m.shown ∧ (m.addG m.gElder "elder").letters = m.letters := by
      unfold CM.addG
      split <;> (try split) <;> exact ⟨rfl, rfl⟩
    refine Evl.q_cut (M := fun σ' H' => σ' = σ0 ∧ CourseAt K CR CP CC B A ((m.addG m.gElder "elder").addG m.gLost "lost") H') (s_goal c2 TC.cl TC.goals (by omega) (gl c2) (Evl.et_and (a := decide (m.kindAt m.newest = ("day" : Str))) (Evl.et_is (Evl.et_test (Evl.ev_op (c2.kind (by rw [s2.2]; exact hw.newest) (c2.f TC.cl TC.letters cf_letters (Evl.ev_var rfl)) (Evl.ev_var rfl)) Evl.ev_c (Evl.rv_eq rfl))) ?_) (fun _ => Evl.et_and (et_din (l := m.shown) (c2.f TC.cl TC.shown cf_shown (Evl.ev_var rfl)) (Evl.ev_var rfl) fun H3 e3 => ?_) (fun _ => vn _))) fun H3 c3 => ⟨rfl, c3⟩) (fun σ' H' hh => ?_)
    · rw [eq_str]
      unfold CM.kindAt
      rw [s2.2]
    · obtain ⟨kvs, k1, k2, k3⟩ := (c2.ext e3).sh
      rw [s2.1] at k3
      exact ⟨kvs, k1, k3 _⟩
    obtain ⟨rfl, c3⟩ := hh
    have g1 := addG_same (m := m) m.gElder "elder"
    have g2 := addG_same (m := m.addG m.gElder "elder") m.gLost "lost"
    have z1 := g1.z
    have z2 := g2.z
    generalize e3 : (m.addG m.gElder "elder").addG m.gLost "lost" = m3 at c3 g2 z2
    have l3 : m3.letters = m.letters := g2.l.trans g1.l
    have o3 : m3.off = m.off := g2.o.trans g1.o
    have ib : m3.isBack m.view = m.isBack m.view := by
      unfold CM.isBack CM.isAsk CM.kindAt
      rw [l3, o3]
    -- back
    refine Evl.q_cut (M := fun σ' H' => σ' = σ0 ∧ CourseAt K CR CP CC B A (m3.addG (m.isBack m.view) "back") H') (s_goal c3 TC.cl TC.goals (by omega) (gl c3) (Evl.et_B (fun H4 e4 Q4 q4 => ⟨_, rfl, A.c, A.dx, _, rfl, (c3.ext e4).obj, cf_noback, _, rfl, B, A, m3, m.view, rfl, c3.ext e4, fun i e => by rw [l3]; exact vw i e, fun H5 e5 => by rw [ib]; exact q4 H5 e5⟩)) fun H4 c4 => ⟨rfl, c4⟩) (fun σ' H' hh => ?_)
    obtain ⟨rfl, c4⟩ := hh
    have g3 := addG_same (m := m3) (m.isBack m.view) "back"
    have z3 := g3.z
    generalize e4 : m3.addG (m.isBack m.view) "back" = m4 at c4 g3 z3
    have a4 : m4.answers = m.answers := g3.a.trans (g2.a.trans g1.a)
    have k4 : m4.counted = m.counted := g3.c.trans (g2.c.trans g1.c)
    -- wrong
    refine Evl.q_cut (M := fun σ' H' => σ' = σ0 ∧ CourseAt K CR CP CC B A (m4.addG m.gWrong "wrong") H') (s_goal c4 TC.cl TC.goals (by omega) (gl c4) (Evl.et_is (Evl.et_and (a := !decide (m.counted = none)) (b := m.gWrong) (Evl.et_is (Evl.et_test (Evl.ev_op (c4.f TC.cl TC.counted cf_counted (Evl.ev_var rfl)) Evl.ev_c rv_notN)) (by rw [ov_non, k4])) (fun hc => ?_)) ?_) fun H5 c5 => ⟨rfl, c5⟩) (fun σ' H' hh => ?_)
    · cases ec : m.counted with
      | none =>
        rw [ec] at hc
        cases hc
      | some a =>
        have ha := hw.counted a ec
        have gw : m.gWrong = !decide (m.ansAt a = m.newest) := by
          unfold CM.gWrong
          rw [ec]
        rw [gw]
        refine Evl.et_is (Evl.et_test (Evl.ev_op (x := .int (m.ansAt a : Int)) (Evl.ev_op (c4.f TC.cl TC.answers cf_answers (Evl.ev_var rfl)) (Evl.ev_is (c4.f TC.cl TC.counted cf_counted (Evl.ev_var rfl)) (ov_some (k4.trans ec))) (Evl.rv_ixL (Evl.sq_of c4.an) (atI_nat ?_))) (Evl.ev_var rfl) (Evl.rv_ne rfl))) ?_
        · rw [a4, List.getElem?_map, List.getElem?_eq_getElem ha]
          unfold CM.ansAt
          rw [List.getElem?_eq_getElem ha]
          rfl
        · exact congrArg (fun b => !b) (decide_eq_decide.mpr ⟨fun z => Int.ofNat_inj.mp (V.int.inj z), fun z => by rw [z]⟩)
    · unfold CM.gWrong
      cases m.counted <;> rfl
    obtain ⟨rfl, c5⟩ := hh
    have g4 := addG_same (m := m4) m.gWrong "wrong"
    have z4 := g4.z
    generalize e5 : m4.addG m.gWrong "wrong" = m5 at c5 g4 z4
    -- deaf
    refine s_goal c5 TC.cl TC.goals (by omega) (gl c5) (b := m.gDeaf hd) (Evl.et_and (Evl.et_is (Evl.et_test (Evl.ev_op (Evl.ev_var rfl) (Evl.ev_var rfl) (Evl.rv_eq (scal_ov _ _)))) (ov_eq _ _)) (fun _ => Evl.et_is (Evl.et_test (Evl.ev_op (c5.f TC.cl TC.counted cf_counted (Evl.ev_var rfl)) Evl.ev_c rv_isN)) (by rw [ov_non, g4.c.trans k4]))) fun H6 c6 => q H6 ?_
    unfold CM.judge
    rw [e3, e4, e5]
    exact c6
end
end Ov


namespace Ov
open PySem PySem.Spec PyProof.Rows L2
open Evl (pss_cut tCut Ex Ev EvT EvL EvA EvU)
/-! ### an event -/
structure TxG (K : PySem.W.Frag) (mg : Str → Option Value) (a_DEEDS : Addr) (tCm tHd tAn : Tok) : Prop where
  g_DEEDS : mg "DEEDS" = some (.ref a_DEEDS)
  s_DEEDS : ∀ H, SqT K H a_DEEDS (CM.deedsAll.map V.str)
  g_COME : mg "COME" = some (.str "come " tCm)
  g_HEARD : mg "HEARD" = some (.str "heard " tHd)
  g_ANSWERING : mg "ANSWERING" = some (.str "answer" tAn)
structure CM.Le (m : CM) (n : Nat) : Prop where
  l : m.letters.length ≤ n
  a : m.answers.length ≤ n
  s : m.shows.length ≤ n
  r : m.rules.length ≤ n
  c : m.came.length ≤ n
  h : m.shown.length ≤ n
  g : m.goals.length ≤ n
namespace CM
variable {m : CM} {n : Nat}
theorem Le.mono (h : m.Le n) {k : Nat} (hk : n ≤ k) : m.Le k := ⟨Nat.le_trans h.l hk, Nat.le_trans h.a hk, Nat.le_trans h.s hk, Nat.le_trans h.r hk, Nat.le_trans h.c hk, Nat.le_trans h.h hk, Nat.le_trans h.g hk⟩
theorem len1 {α : Type} {l : List α} {x : α} (h : l.length ≤ n) : (l ++ [x]).length ≤ n + 1 := by
  rw [List.length_append]
  exact Nat.succ_le_succ h
theorem Le.send (h : m.Le n) (d : Str) : (m.send d).Le (n + 1) := by
  have h1 := h.mono (Nat.le_succ n)
  unfold CM.send
  split
  · exact ⟨len1 h.l, h1.a, h1.s, h1.r, h1.c, h1.h, h1.g⟩
  · exact ⟨len1 h.l, h1.a, h1.s, h1.r, h1.c, h1.h, h1.g⟩
theorem Le.wiped (h : m.Le n) (b : Bool) : (m.wiped b).Le n := by
  unfold CM.wiped
  split
  · exact ⟨h.l, h.a, h.s, h.r, h.c, h.h, h.g⟩
  · exact h
theorem Le.taken (h : m.Le n) (i : Nat) (t w : Bool) : (m.taken i t w).Le n := by
  unfold CM.taken
  split
  · exact ⟨h.l, h.a, h.s, h.r, h.c, h.h, h.g⟩
  · split
    · exact ⟨h.l, h.a, h.s, h.r, h.c, h.h, h.g⟩
    · exact h
theorem Le.come (h : m.Le n) (i : Nat) : (m.come i).Le (n + 1) := by
  have h2 := (h.wiped (m.effFor i).2).taken i (m.effFor i).1 (wholeKind (m.kindAt i))
  have h3 := h2.mono (Nat.le_succ n)
  exact ⟨h3.l, h3.a, h3.s, h3.r, len1 h2.c, h3.h, h3.g⟩
theorem Le.hear (h : m.Le n) (a : Nat) : (m.hear a).Le n := by
  unfold CM.hear
  split
  · exact h
  · exact ⟨h.l, h.a, h.s, h.r, h.c, h.h, h.g⟩
theorem Le.answer (h : m.Le n) (i : Nat) : CM.Le { m with answers := m.answers ++ [i] } (n + 1) := by
  have h1 := h.mono (Nat.le_succ n)
  exact ⟨h1.l, len1 h.a, h1.s, h1.r, h1.c, h1.h, h1.g⟩
theorem Le.ruled (h : m.Le n) (r : Option Nat) : (m.ruled r).Le (n + 1) := by
  have h1 := h.mono (Nat.le_succ n)
  exact ⟨h1.l, h1.a, h1.s, len1 h.r, h1.c, h1.h, h1.g⟩
theorem Le.offed (h : m.Le n) (i : Nat) : (m.offed i).Le n := by
  unfold CM.offed
  split
  · exact ⟨h.l, h.a, h.s, h.r, h.c, h.h, h.g⟩
  · exact h
theorem Le.look (h : m.Le n) : m.look.Le (n + 1) := by
  have h1 := h.mono (Nat.le_succ n)
  have hs : m.looked.Le (n + 1) := ⟨h1.l, h1.a, len1 h.s, h1.r, h1.c, h1.h, h1.g⟩
  unfold CM.look
  split
  · exact hs
  · rename_i i _
    have hd : (m.looked.seen i).Le (n + 1) := ⟨h1.l, h1.a, len1 h.s, h1.r, h1.c, len1 h.h, h1.g⟩
    exact hd.offed i
theorem Le.addG (h : m.Le n) (b : Bool) (g : Str) : (m.addG b g).Le (n + 1) := by
  have h1 := h.mono (Nat.le_succ n)
  unfold CM.addG
  split
  · split
    · exact h1
    · exact ⟨h1.l, h1.a, h1.s, h1.r, h1.c, h1.h, len1 h.g⟩
  · exact h1
theorem Le.judge (h : m.Le n) (hd : Option Nat) : (m.judge hd).Le (n + 5) := ((((h.addG _ _).addG _ _).addG _ _).addG _ _).addG _ _
theorem Le.act (h : m.Le n) {z : Str} {x : CM × Option Nat × Option Nat} (e : m.act z = some x) : x.1.Le (n + 1) := by
  unfold CM.act at e
  split at e
  · cases e
    exact h.send z
  · split at e
    · rename_i i hi
      cases e
      exact h.come i
    · split at e
      · rename_i a ha
        cases e
        exact (h.hear a).mono (Nat.le_succ n)
      · split at e
        · cases e
          exact h.answer _
        · cases e
theorem Le.goOn (h : m.Le n) {z : Str} {m2 : CM} (e : m.goOn z = some m2) : m2.Le (n + 8) := by
  unfold CM.goOn at e
  obtain ⟨x, h1, rfl⟩ := Option.map_eq_some_iff.mp e
  exact (((h.act h1).ruled _).look).judge _
end CM
theorem q_asg2 {v : V} {i j : Nat} {D : Ends} {tz : TS} {σ : L2.St} {H : Hp} (h : tz D ((σ.set i (some v)).set j (some v)) H) : tSeq (tAsg2 (tC v) (gName i) (gName j)) tz D σ H := h
def spToCome (K : PySem.W.Frag) (CR CP CC : Addr) : Sp := fun vs H Q _ => ∃ (B : Hp) (A : CA) (m : CM) (z : Str), vs = [.ref A.c, .str z] ∧ CourseAt K CR CP CC B A m H ∧ m.letters.length ≤ 1000 ∧ EvOk z ∧ ∀ H', Ex H H' → Q (ov (m.toCome z)) H'
def spCanAnswer (K : PySem.W.Frag) (CR CP CC : Addr) : Sp := fun vs H Q _ => ∃ (B : Hp) (A : CA) (m : CM), vs = [.ref A.c] ∧ CourseAt K CR CP CC B A m H ∧ m.WF ∧ ∀ H', Ex H H' → Q (.bl m.canAnswer) H'
def spGoOn (K : PySem.W.Frag) (CR CP CC : Addr) : Sp := fun vs H Q _ => ∃ (B : Hp) (A : CA) (m m2 : CM) (z : Str) (i : Int), vs = [.ref A.c, .str z, .int i] ∧ CourseAt K CR CP CC B A m H ∧ m.WF ∧ m.Le 990 ∧ EvOk z ∧ m.goOn z = some m2 ∧ ∀ H', CourseAt K CR CP CC B A m2 H' → Q .non H'
section
variable {P : Program} {w : World} {K : PySem.W.Frag} {mg : Str → Option Value} {base : Heap} {a_LETTERS a_LETTER_TESTS a_LETTER_DEEDS a_ANSWER_TESTS a_ANSWER_DEEDS CR CP CC a_HOLDS a_DEEDS : Addr} {tA tN tO tCm tHd tAn : Tok}
theorem scLetterToCome : FnScope ["course", "event", "place"] ["course", "event"] (defScope sLetterToCome) := ⟨rfl, rfl, rfl, by decide +kernel, rfl, by decide +kernel, by decide +kernel⟩
theorem scCanAnswer : FnScope ["course", "place"] ["course"] (defScope sCanAnswer) := ⟨rfl, rfl, rfl, by decide +kernel, rfl, by decide +kernel, by decide +kernel⟩
theorem scGoOn : FnScope ["course", "event", "at", "rule", "heard", "place", "answer"] ["course", "event", "at"] (defScope sGoOn) := ⟨rfl, rfl, rfl, by decide +kernel, rfl, by decide +kernel, by decide +kernel⟩
theorem ok_to_come {f fR : Addr} {fd fdR : FuncData} (F : Fun K "letter_to_come" "letter_to_come" sLetterToCome f fd) (T : TxR K mg a_LETTERS a_LETTER_TESTS a_LETTER_DEEDS a_ANSWER_TESTS a_ANSWER_DEEDS CR tA tN) (TC : TxC K mg CC tO) (TG : TxG K mg a_DEEDS tCm tHd tAn)
    (D_read_place : Df K mg "read_place" sReadPlace ["value", "word", "many"] fR fdR) (G_read_place : FnOk P w K mg base CX0 1 fR fdR ["value", "word", "many"] spReadPlace) : FnOk P w K mg base CX0 2 f fd ["course", "event"] (spToCome K CR CP CC) := by
  refine F.ok scLetterToCome (fun vs H Q E h => ?_) (fun cdv A outer s H vs Q E hr h => ?_)
  · obtain ⟨B, A, m, z, rfl, _⟩ := h
    rfl
  · obtain ⟨B, A, m, z, rfl, h, hz, ho, q⟩ := h
    refine ⟨_, pss_cons (ps_set (i := 2) scLetterToCome.nd rfl (.inl rfl) (pe_call G_read_place (hr.mono (by decide)) rfl D_read_place.g D_read_place.F.kp D_read_place.b .nil pass0 (pa_cons (pv 1) (pa_cons (pe_glob (v := .str "come ") rfl TG.g_COME ⟨_, rfl⟩) (pa_cons (pe_callB call_len_seq (by rfl) T.n_len (by decide +kernel) (pa_cons (pe_fld (pv 0) rfl) pa_nil)) pa_nil)))))
      (pss_one (ps_ret (pe_ifExp (PW.pt (pw_or (pt_cmpR op_isN (pv 2) pe_non (nomark _)) (pw_or1 (pt_cmpR op_eq (pe_ix ix_tup (pe_ix ix_list (pe_fld (pv 0) rfl) (pv 2) (fun _ _ => rfl)) pe_int (fun _ _ => rfl)) (pe_glob (v := .str "other") rfl TC.g_OTHER ⟨_, rfl⟩) (nomark _))))) pe_non (pv 2)))), ?_⟩
    refine Evl.q_asg (v := ov (readPlaceM z "come " m.letters.length)) (ev_call (Evl.ea_cons (Evl.ev_var rfl) (Evl.ea_cons Evl.ev_c (Evl.ea_cons (h.lenL (h.f TC.cl TC.letters cf_letters (Evl.ev_var rfl))) Evl.ea_nil))) fun H1 e1 Q1 q1 => ⟨z, "come ", m.letters.length, rfl, ho.len, ho.lc, ho.c, hz, fun H2 e2 => q1 H2 e2⟩) fun H1 e1 => ?_
    have c1 := h.ext e1
    cases er : readPlaceM z "come " m.letters.length with
    | none =>
      have et : m.toCome z = none := by
        unfold CM.toCome
        rw [er]
      refine Evl.s_ret (v := ov (m.toCome z)) (Evl.ev_if (b := true) (Evl.et_or (a := true) (b := true) (Evl.et_test (Evl.ev_op (Evl.ev_var rfl) Evl.ev_c rv_isN)) (fun z => nomatch z)) (fun _ => ?_) (fun z => nomatch z)) fun H2 e2 => q H2 (e1.trans e2)
      rw [et]
      exact Evl.ev_c
    | some i =>
      have hi := readPlace_lt er ho.c
      refine Evl.s_ret (v := ov (m.toCome z)) (Evl.ev_if (b := decide (m.kindAt i = ("other" : Str))) (Evl.et_is (Evl.et_or (a := false) (Evl.et_test (Evl.ev_op (Evl.ev_var rfl) Evl.ev_c rv_isN)) (fun _ => Evl.et_is (Evl.et_test (Evl.ev_op (c1.kind hi (c1.f TC.cl TC.letters cf_letters (Evl.ev_var rfl)) (Evl.ev_var rfl)) Evl.ev_c (Evl.rv_eq rfl))) (eq_str _ _))) rfl) (fun e => ?_) (fun e => ?_)) fun H2 e2 => q H2 (e1.trans e2)
      · have et : m.toCome z = none := by
          unfold CM.toCome
          rw [er]
          exact if_pos (of_decide_eq_true e)
        rw [et]
        exact Evl.ev_c
      · have et : m.toCome z = some i := by
          unfold CM.toCome
          rw [er]
          exact if_neg (of_decide_eq_false e)
        rw [et]
        exact Evl.ev_var rfl
theorem ok_can_answer {f fS : Addr} {fd fdS : FuncData} (F : Fun K "can_answer" "can_answer" sCanAnswer f fd) (TC : TxC K mg CC tO) (M_showing : Meth K CC "showing" fS) (G_showing : FnOk P w K mg base CX0 1 fS fdS ["self"] (spShowing K CR CP CC)) (b_showing : Binds K fdS ["self"] []) :
    FnOk P w K mg base CX0 2 f fd ["course"] (spCanAnswer K CR CP CC) := by
  refine F.ok scCanAnswer (fun vs H Q E h => ?_) (fun cdv A outer s H vs Q E hr h => ?_)
  · obtain ⟨B, A, m, rfl, _⟩ := h
    rfl
  · obtain ⟨B, A, m, rfl, h, hw, q⟩ := h
    refine ⟨_, pss_cons (ps_set (i := 1) scCanAnswer.nd rfl (.inl rfl) (pe_meth0 (pv 0) TC.cl M_showing G_showing (hr.mono (by decide)) b_showing .nil pass0))
      (pss_one (ps_ret (pe_and (pe_cmpR op_notN (pv 1) pe_non (nomark _)) (pe_one (pe_cmpR op_in_seq (pe_ix ix_tup (pe_ix ix_list (pe_fld (pv 0) rfl) (pv 1) (fun _ _ => rfl)) pe_int (fun _ _ => rfl)) (pe_tup (pa_cons pe_str (pa_cons pe_str pa_nil))) (by rfl)))))), ?_⟩
    refine Evl.q_asg (v := ov m.showing) (fun H1 e1 Q1 q1 => ⟨_, rfl, A.c, A.dx, _, rfl, (h.ext e1).obj, cf_noshowing, B, A, m, rfl, h.ext e1, fun H2 e2 => q1 H2 e2⟩) fun H1 e1 => ?_
    have c1 := h.ext e1
    cases es : m.showing with
    | none =>
      refine Evl.s_ret (v := .bl (false && false)) (Evl.ev_andV (a := false) (b := false) (Evl.ev_op (Evl.ev_var rfl) Evl.ev_c rv_notN) (fun z => nomatch z)) fun H2 e2 => ?_
      have q2 := q H2 (e1.trans e2)
      unfold CM.canAnswer at q2
      rw [es] at q2
      exact q2
    | some i =>
      have hi := CM.showing_lt hw es
      refine Evl.s_ret (v := .bl (true && m.isAsk i)) (Evl.ev_andV (a := true) (Evl.ev_op (Evl.ev_var rfl) Evl.ev_c rv_notN) (fun _ => Evl.ev_is (Evl.ev_inU (xs := (["ask", "day"] : List Str).map V.str) (c1.kind hi (c1.f TC.cl TC.letters cf_letters (Evl.ev_var rfl)) (Evl.ev_var rfl)) (Evl.eu_tup (Evl.ea_cons Evl.ev_c (Evl.ea_cons Evl.ev_c Evl.ea_nil)) (by show 2 ≤ 100000; decide)) rfl (flat_strs _)) (by rw [inV_strs]; rfl))) fun H2 e2 => ?_
      have q2 := q H2 (e1.trans e2)
      unfold CM.canAnswer at q2
      rw [es] at q2
      exact q2
theorem cf_nom {A : CA} {m : CM} : (cf A m).lookup ("send" : Str) = none ∧ (cf A m).lookup ("come" : Str) = none ∧ (cf A m).lookup ("hear" : Str) = none ∧ (cf A m).lookup ("look" : Str) = none ∧ (cf A m).lookup ("judge" : Str) = none := ⟨by kernel_rfl, by kernel_rfl, by kernel_rfl, by kernel_rfl, by kernel_rfl⟩
theorem ok_go_on {f fTC fR fCA fSe fCo fHe fLo fJu fS : Addr} {fd fdTC fdR fdCA fdSe fdCo fdHe fdLo fdJu fdS : FuncData} (F : Fun K "go_on" "go_on" sGoOn f fd) (T : TxR K mg a_LETTERS a_LETTER_TESTS a_LETTER_DEEDS a_ANSWER_TESTS a_ANSWER_DEEDS CR tA tN) (TC : TxC K mg CC tO) (TG : TxG K mg a_DEEDS tCm tHd tAn)
    (D_letter_to_come : Df K mg "letter_to_come" sLetterToCome ["course", "event"] fTC fdTC) (G_letter_to_come : FnOk P w K mg base CX0 2 fTC fdTC ["course", "event"] (spToCome K CR CP CC))
    (D_read_place : Df K mg "read_place" sReadPlace ["value", "word", "many"] fR fdR) (G_read_place : FnOk P w K mg base CX0 1 fR fdR ["value", "word", "many"] spReadPlace)
    (D_can_answer : Df K mg "can_answer" sCanAnswer ["course"] fCA fdCA) (G_can_answer : FnOk P w K mg base CX0 2 fCA fdCA ["course"] (spCanAnswer K CR CP CC))
    (M_send : Meth K CC "send" fSe) (G_send : FnOk P w K mg base CX0 1 fSe fdSe ["self", "deed"] (spSend K CR CP CC)) (b_send : Binds K fdSe ["self", "deed"] [])
    (M_come : Meth K CC "come" fCo) (G_come : FnOk P w K mg base CX0 4 fCo fdCo ["self", "place"] (spCome K CR CP CC)) (b_come : Binds K fdCo ["self", "place"] [])
    (M_hear : Meth K CC "hear" fHe) (G_hear : FnOk P w K mg base CX0 2 fHe fdHe ["self", "answer"] (spHear K CR CP CC)) (b_hear : Binds K fdHe ["self", "answer"] [])
    (M_look : Meth K CC "look" fLo) (G_look : FnOk P w K mg base CX0 2 fLo fdLo ["self"] (spLook K CR CP CC)) (b_look : Binds K fdLo ["self"] [])
    (M_judge : Meth K CC "judge" fJu) (G_judge : FnOk P w K mg base CX0 2 fJu fdJu ["self", "heard"] (spJudge K CR CP CC)) (b_judge : Binds K fdJu ["self", "heard"] [])
    (M_showing : Meth K CC "showing" fS) (G_showing : FnOk P w K mg base CX0 1 fS fdS ["self"] (spShowing K CR CP CC)) (b_showing : Binds K fdS ["self"] []) :
    FnOk P w K mg base CX0 5 f fd ["course", "event", "at"] (spGoOn K CR CP CC) := by
  refine F.ok scGoOn (fun vs H Q E h => ?_) (fun cdv A outer s H vs Q E hr h => ?_)
  · obtain ⟨B, A, m, m2, z, i, rfl, _⟩ := h
    rfl
  · obtain ⟨B, A, m, m2, z, i, rfl, h, hw, hl, ho, hg, q⟩ := h
    refine ⟨_, pss_cons (ps_asg2 pe_non (pg_name (i := 3) scGoOn.nd rfl (Or.inl rfl)) (pg_name (i := 4) scGoOn.nd rfl (Or.inl rfl)))
      (pss_cons (ps_set (i := 5) scGoOn.nd rfl (.inl rfl) (pe_call G_letter_to_come (hr.mono (by decide)) rfl D_letter_to_come.g D_letter_to_come.F.kp D_letter_to_come.b .nil pass0 (pa_cons (pv 0) (pa_cons (pv 1) pa_nil))))
      (pss_cons (ps_set (i := 6) scGoOn.nd rfl (.inl rfl) (pe_call G_read_place (hr.mono (by decide)) rfl D_read_place.g D_read_place.F.kp D_read_place.b .nil pass0 (pa_cons (pv 1) (pa_cons (pe_glob (v := .str "heard ") rfl TG.g_HEARD ⟨_, rfl⟩) (pa_cons (pe_callB call_len_seq (by rfl) T.n_len (by decide +kernel) (pa_cons (pe_fld (pv 0) rfl) pa_nil)) pa_nil)))))
      (pss_cut (ps_if (pt_cmpR op_in_seq (pv 1) (pe_glob (v := .ref a_DEEDS) rfl TG.g_DEEDS rfl) (by rfl)) (pss_one (ps_expr (pe_meth (pv 0) TC.cl M_send G_send (hr.mono (by decide)) b_send .nil pass0 (pa_cons (pv 1) pa_nil)))) (pss_one (ps_if (pt_cmpR op_notN (pv 5) pe_non (nomark _)) (pss_one (ps_set (i := 3) scGoOn.nd rfl (.inl rfl) (pe_meth (pv 0) TC.cl M_come G_come (hr.mono (by decide)) b_come .nil pass0 (pa_cons (pv 5) pa_nil)))) (pss_one (ps_if (pt_cmpR op_notN (pv 6) pe_non (nomark _)) (pss_cons (ps_set (i := 3) scGoOn.nd rfl (.inl rfl) (pe_meth (pv 0) TC.cl M_hear G_hear (hr.mono (by decide)) b_hear .nil pass0 (pa_cons (pv 6) pa_nil)))
      (pss_one (ps_set (i := 4) scGoOn.nd rfl (.inl rfl) (pe_ix ix_list (pe_fld (pv 0) rfl) (pv 6) (fun _ _ => rfl))))) (pss_one (ps_if (PW.pt (pw_and (pt_cmpR op_eq (pv 1) (pe_glob (v := .str "answer") rfl TG.g_ANSWERING ⟨_, rfl⟩) (nomark _)) (pw_and1 (pt_val (pe_call G_can_answer (hr.mono (by decide)) rfl D_can_answer.g D_can_answer.F.kp D_can_answer.b .nil pass0 (pa_cons (pv 0) pa_nil)))))) (pss_one (ps_expr (pe_bm PySem.F.plainAttrs_list PySem.F.slot_list_append PySem.F.type_list_append mt_append (pe_fld (pv 0) rfl) (pa_cons (pe_meth0 (pv 0) TC.cl M_showing G_showing (hr.mono (by decide)) b_showing .nil pass0) pa_nil)))) (pss_one ps_never))))))))
      (pss_cons (ps_expr (pe_bm PySem.F.plainAttrs_list PySem.F.slot_list_append PySem.F.type_list_append mt_append (pe_fld (pv 0) rfl) (pa_cons (pv 3) pa_nil)))
      (pss_cons (ps_expr (pe_meth0 (pv 0) TC.cl M_look G_look (hr.mono (by decide)) b_look .nil pass0))
      (pss_one (ps_expr (pe_meth (pv 0) TC.cl M_judge G_judge (hr.mono (by decide)) b_judge .nil pass0 (pa_cons (pv 4) pa_nil))))))))), ?_⟩
    obtain ⟨x, hx, rfl⟩ := Option.map_eq_some_iff.mp hg
    refine q_asg2 ?_
    refine Evl.q_asg (v := ov (m.toCome z)) (ev_call (Evl.ea_cons (Evl.ev_var rfl) (Evl.ea_cons (Evl.ev_var rfl) Evl.ea_nil)) fun H1 e1 Q1 q1 => ⟨B, A, m, z, rfl, h.ext e1, Nat.le_trans hl.l (by decide), ho, fun H2 e2 => q1 H2 e2⟩) fun H1 e1 => ?_
    have c1 := h.ext e1
    have la : ∀ {σ : L2.St}, σ[0]? = some (some (V.ref A.c)) → Ev (tCB (Evl.rLenS K) (tCons (tFld K (tVar 0) "answers") tNil)) σ H1 (.int (m.answers.length : Int)) := fun e => by
      have e2 := Evl.ev_len (K := K) (c1.f TC.cl TC.answers cf_answers (Evl.ev_var e)) (Evl.sq_of c1.an)
      rw [List.length_map] at e2
      exact e2
    refine Evl.q_asg (v := ov (m.toHear z)) (ev_call (Evl.ea_cons (Evl.ev_var rfl) (Evl.ea_cons Evl.ev_c (Evl.ea_cons (la rfl) Evl.ea_nil))) fun H2 e2 Q2 q2 => ⟨z, "heard ", m.answers.length, rfl, ho.len, ho.lh, ho.h, Nat.le_trans hl.a (by decide), fun H3 e3 => q2 H3 e3⟩) fun H2 e2 => ?_
    have c2 := c1.ext e2
    refine Evl.q_cut (M := fun σ' H' => ∃ v5 v6 : Option V, σ' = [some (.ref A.c), some (.str z), some (.int i), some (ov x.2.1), some (ov x.2.2), v5, v6] ∧ CourseAt K CR CP CC B A x.1 H') ?_ (fun σ' H' hh => ?_)
    · refine Evl.s_if (b := decide (z ∈ CM.deedsAll)) (Evl.et_test (Evl.ev_is (Evl.ev_op (Evl.ev_var rfl) Evl.ev_c (Evl.rv_isT (TG.s_DEEDS _) rfl (flat_strs _))) (by rw [inV_strs]))) (fun hz H3 e3 => ?_) (fun hz H3 e3 => ?_)
      · have hz2 := of_decide_eq_true hz
        unfold CM.act at hx
        rw [if_pos hz2] at hx
        cases hx
        have c3 := c2.ext e3
        exact ⟨_, rfl, A.c, A.dx, _, rfl, c3.obj, cf_nom.1, _, rfl, B, A, m, z, rfl, c3, hw, Nat.le_trans hl.l (by decide), hz2, fun H4 c4 => ⟨_, _, rfl, c4⟩⟩
      · unfold CM.act at hx
        rw [if_neg (of_decide_eq_false hz)] at hx
        have c3 := c2.ext e3
        cases et : m.toCome z with
        | some j =>
          rw [et] at hx
          cases hx
          obtain ⟨hj, hk⟩ := CM.toCome_lt et ho
          refine Evl.s_if (b := true) (Evl.et_test (Evl.ev_op (Evl.ev_var rfl) Evl.ev_c rv_notN)) (fun _ H4 e4 => ?_) (fun z => nomatch z)
          have c4 := c3.ext e4
          exact ⟨_, rfl, A.c, A.dx, _, rfl, c4.obj, cf_nom.2.1, _, rfl, B, A, m, j, rfl, c4, hw, Nat.le_trans hl.c (by decide), hj, hk, fun H5 c5 => ⟨_, _, rfl, c5⟩⟩
        | none =>
          rw [et] at hx
          refine Evl.s_if (b := false) (Evl.et_test (Evl.ev_op (Evl.ev_var rfl) Evl.ev_c rv_notN)) (fun z => nomatch z) (fun _ H4 e4 => ?_)
          have c4 := c3.ext e4
          cases eh : m.toHear z with
          | some a =>
            rw [eh] at hx
            cases hx
            have ha : a < m.answers.length := readPlace_lt eh ho.h
            refine Evl.s_if (b := true) (Evl.et_test (Evl.ev_op (Evl.ev_var rfl) Evl.ev_c rv_notN)) (fun _ H5 e5 => ?_) (fun z => nomatch z)
            have c5 := c4.ext e5
            refine q_put ⟨_, rfl, A.c, A.dx, _, rfl, c5.obj, cf_nom.2.2.1, _, rfl, B, A, m, a, rfl, c5, hw, ha, fun H6 c6 => ?_⟩
            have an6 : (m.hear a).answers = m.answers := by
              unfold CM.hear
              split <;> rfl
            refine Evl.s_asg (v := .int (m.ansAt a : Int)) (Evl.ev_op (c6.f TC.cl TC.answers cf_answers (Evl.ev_var rfl)) (Evl.ev_var rfl) (Evl.rv_ixL (Evl.sq_of c6.an) (atI_nat ?_))) fun H7 e7 => ⟨_, _, rfl, c6.ext e7⟩
            rw [an6, List.getElem?_map, List.getElem?_eq_getElem ha]
            unfold CM.ansAt
            rw [List.getElem?_eq_getElem ha]
            rfl
          | none =>
            rw [eh] at hx
            refine Evl.s_if (b := false) (Evl.et_test (Evl.ev_op (Evl.ev_var rfl) Evl.ev_c rv_notN)) (fun z => nomatch z) (fun _ H5 e5 => ?_)
            have c5 := c4.ext e5
            replace hx : (if decide (z = ("answer" : Str)) && m.canAnswer then some (({ m with answers := m.answers ++ [m.showing.getD 0] } : CM), (none : Option Nat), (none : Option Nat)) else none) = some x := hx
            refine Evl.s_if (b := decide (z = ("answer" : Str)) && m.canAnswer) (Evl.et_and (Evl.et_is (Evl.et_test (Evl.ev_op (Evl.ev_var rfl) Evl.ev_c (Evl.rv_eq rfl))) (eq_str _ _)) (fun _ => Evl.et_B (ev_call (Evl.ea_cons (Evl.ev_var rfl) Evl.ea_nil) fun H6 e6 Q6 q6 => ⟨B, A, m, rfl, c5.ext e6, hw, fun H7 e7 => q6 H7 e7⟩))) (fun hc H6 e6 => ?_) (fun hc H6 e6 => ?_)
            · rw [if_pos hc] at hx
              cases hx
              have c6 := c5.ext e6
              have hca := (Bool.and_eq_true_iff.mp hc).2
              obtain ⟨j, es⟩ : ∃ j, m.showing = some j := by
                cases es : m.showing with
                | none =>
                  unfold CM.canAnswer at hca
                  rw [es] at hca
                  cases hca
                | some j => exact ⟨j, rfl⟩
              refine Evl.s_app c6.an (c6.f TC.cl TC.answers cf_answers (Evl.ev_var rfl)) (v := .int ((m.showing.getD 0 : Nat) : Int)) (fun H7 e7 Q7 q7 => ⟨_, rfl, A.c, A.dx, _, rfl, (c6.ext e7).obj, cf_noshowing, B, A, m, rfl, c6.ext e7, fun H8 e8 => ?_⟩) (by rw [List.length_map]; have := hl.a; omega) fun H7 e7 => ⟨_, _, rfl, (c6.ext e7).putan _⟩
              have e9 : ov m.showing = .int ((m.showing.getD 0 : Nat) : Int) := by rw [es]; rfl
              rw [e9]
              exact q7 H8 e8
            · rw [if_neg (by rw [hc]; decide)] at hx
              cases hx
    · obtain ⟨v5, v6, rfl, c3⟩ := hh
      have w1 := hw.act ho hx
      have l1 := hl.act hx
      refine Evl.q_app c3.rl (c3.f TC.cl TC.rules cf_rules (Evl.ev_var rfl)) (Evl.ev_var rfl) (by rw [List.length_map]; have := l1.r; omega) fun H3 e3 => ?_
      have c4 := (c3.ext e3).putrl x.2.1
      have w2 := w1.ruled x.2.1
      have l2 := l1.ruled x.2.1
      refine (show tSeq (tDrop _) _ _ _ _ from ⟨_, rfl, A.c, A.dx, _, rfl, c4.obj, cf_nom.2.2.2.1, B, A, _, rfl, c4, w2, Nat.le_trans l2.s (by decide), Nat.le_trans l2.h (by decide), fun H4 c5 => ?_⟩)
      exact ⟨_, rfl, A.c, A.dx, _, rfl, c5.obj, cf_nom.2.2.2.2, _, rfl, B, A, _, x.2.2, rfl, c5, w2.look, Nat.le_trans l2.look.g (by decide), fun H5 c6 => q H5 c6⟩
end
end Ov


namespace Ov
open PySem PySem.Spec PyProof.Rows L2
open Evl (pss_cut tCut Ex Ev EvT EvL EvA EvU)
/-! ### a Course made, a Played, play -/
/-- while an object is made: its fields so far, what is new besides -/
structure Ini (B : Hp) (C x dx : Addr) (H : Hp) (fs : List (Str × V)) (os : List (Addr × HO)) (n : Nat) : Prop where
  ex : Ex B H
  nx : B x = none
  ob : H x = some (.ins C dx fs)
  oo : ∀ q ∈ os, H q.1 = some q.2 ∧ B q.1 = none ∧ q.1 ≠ x
  nd : (os.map Prod.fst).Nodup
  ln : fs.length ≤ n
theorem len_putF (f : Str) (v : V) : ∀ fs : List (Str × V), (putF f v fs).length ≤ fs.length + 1
  | [] => Nat.le_refl _
  | (g, x) :: r => by
    show (if g = f then (g, v) :: r else (g, x) :: putF f v r).length ≤ _
    split
    · exact Nat.le_succ _
    · exact Nat.succ_le_succ (len_putF f v r)
/-- makes a new object that is o -/
def EvNew (te : TE) (σ : L2.St) (H : Hp) (o : HO) : Prop := ∀ H1, Ex H H1 → ∀ Q : VK, (∀ p H2, H1 p = none → Ex H1 H2 → H2 p = some o → Q (.ref p) H2) → te σ H1 Q
theorem evn_dict {σ : L2.St} {H : Hp} : EvNew tDNewK σ H (.dK []) := fun H1 _ Q q p np => q p _ np (Ex.new np) upd_same
section
variable {K : PySem.W.Frag} {B : Hp} {C x dx : Addr} {H : Hp} {fs : List (Str × V)} {os : List (Addr × HO)} {n : Nat} {σ : L2.St} {to te : TE} {D : Ends} {tz : TS} {f : Str}
theorem Ini.ext (I : Ini B C x dx H fs os n) {H' : Hp} (e : Ex H H') : Ini B C x dx H' fs os n := ⟨I.ex.trans e, I.nx, e _ _ I.ob, fun q hq => ⟨e _ _ (I.oo q hq).1, (I.oo q hq).2⟩, I.nd, I.ln⟩
theorem Ini.put (I : Ini B C x dx H fs os n) (f : Str) (v : V) : Ini B C x dx (upd H x (.ins C dx (putF f v fs))) (putF f v fs) os (n + 1) :=
  ⟨I.ex.mut I.nx, I.nx, upd_same, fun q hq => ⟨(upd_ne (I.oo q hq).2.2).trans (I.oo q hq).1, (I.oo q hq).2⟩, I.nd, Nat.le_trans (len_putF f v fs) (Nat.succ_le_succ I.ln)⟩
theorem Ini.new (I : Ini B C x dx H fs os n) {p : Addr} {H' : Hp} {o : HO} (np : H p = none) (e : Ex H H') (hp : H' p = some o) : Ini B C x dx H' fs ((p, o) :: os) n := by
  refine ⟨I.ex.trans e, I.nx, e _ _ I.ob, fun q hq => ?_, ?_, I.ln⟩
  · rcases List.mem_cons.mp hq with rfl | hq
    · refine ⟨hp, ?_, fun z => ?_⟩
      · exact Evl.fresh_back I.ex np
      · have := I.ob
        rw [← z] at this
        rw [np] at this
        cases this
    · exact ⟨e _ _ (I.oo q hq).1, (I.oo q hq).2⟩
  · rw [List.map_cons]
    refine List.nodup_cons.mpr ⟨fun h => ?_, I.nd⟩
    obtain ⟨q, hq, eq⟩ := List.mem_map.mp h
    have := (I.oo q hq).1
    rw [eq, np] at this
    cases this
theorem q_ini (I : Ini B C x dx H fs os n) (hn : n < 999) (cl : Cls K C) (nf : NoAttr K C f) {v : V} (hv : Ev te σ H v) (ho : Ev to σ H (.ref x)) (k : ∀ H1, Ini B C x dx H1 (putF f v fs) os (n + 1) → tz D σ H1) : tSeq (sFld K to te f) tz D σ H :=
  hv H (Ex.refl _) _ fun H1 e1 => ho H1 e1 _ fun H2 e2 => ⟨x, C, dx, fs, rfl, (I.ext (e1.trans e2)).ob, cl, nf, by have := I.ln; omega, k _ ((I.ext (e1.trans e2)).put f v)⟩
theorem s_iniN (I : Ini B C x dx H fs os n) (hn : n < 999) (cl : Cls K C) (nf : NoAttr K C f) {o : HO} (hv : EvNew te σ H o) (ho : Ev to σ H (.ref x)) (k : ∀ p H1, Ini B C x dx H1 (putF f (.ref p) fs) ((p, o) :: os) (n + 1) → D.nx σ H1) : sFld K to te f D σ H :=
  hv H (Ex.refl _) _ fun p H1 np e1 hp => ho H1 e1 _ fun H2 e2 => ⟨x, C, dx, fs, rfl, (I.ext (e1.trans e2)).ob, cl, nf, by have := I.ln; omega, k p _ (((I.new np e1 hp).ext e2).put f (.ref p))⟩
theorem q_iniN (I : Ini B C x dx H fs os n) (hn : n < 999) (cl : Cls K C) (nf : NoAttr K C f) {o : HO} (hv : EvNew te σ H o) (ho : Ev to σ H (.ref x)) (k : ∀ p H1, Ini B C x dx H1 (putF f (.ref p) fs) ((p, o) :: os) (n + 1) → tz D σ H1) : tSeq (sFld K to te f) tz D σ H :=
  s_iniN (D := { D with nx := tz D }) I hn cl nf hv ho k
/-- a list of one new tuple -/
theorem q_iniLT (I : Ini B C x dx H fs os n) (hn : n < 999) (cl : Cls K C) (nf : NoAttr K C f) {vs : List V} (hv : EvU te σ H vs) (ho : Ev to σ H (.ref x)) (k : ∀ t p H1, Ini B C x dx H1 (putF f (.ref p) fs) ((p, .lst [.ref t]) :: (t, .tup vs) :: os) (n + 1) → tz D σ H1) : tSeq (sFld K to (tLst (tCons te tNil)) f) tz D σ H :=
  hv H (Ex.refl _) _ fun t H1 nt e1 ht => ⟨by show 1 ≤ sizeLine; decide, fun p np => ho _ (e1.trans (Ex.new np)) _ fun H2 e2 =>
    ⟨x, C, dx, fs, rfl, (I.ext (e1.trans ((Ex.new np).trans e2))).ob, cl, nf, by have := I.ln; omega, k t p _ (((((I.new nt e1 ht).new np (Ex.new np) upd_same)).ext e2).put f (.ref p))⟩⟩
end
def spCourseInit (K : PySem.W.Frag) (CR CP CC : Addr) : Sp := fun vs H Q _ => ∃ (B : Hp) (x p dx : Addr) (ks : List Str) (rs : List RuleD), vs = [.ref x, .ref p] ∧ H x = some (.ins CC dx []) ∧ Ex B H ∧ B x = none ∧ PlanIs K CR CP ks rs p B ∧ ∀ (A : CA) H', A.c = x → CourseAt K CR CP CC B A (CM.start ks rs) H' → Q .non H'
section
variable {P : Program} {w : World} {K : PySem.W.Frag} {mg : Str → Option Value} {base : Heap} {CR CP CC : Addr} {tO : Tok}
theorem scCourseInit : FnScope ["self", "plan"] ["self", "plan"] (defScope sCourseInit) := ⟨rfl, rfl, rfl, by decide +kernel, rfl, by decide +kernel, by decide +kernel⟩
theorem ok_course_init {f : Addr} {fd : FuncData} (F : Fun K "__init__" "Course.__init__" sCourseInit f fd) (TC : TxC K mg CC tO) : FnOk P w K mg base CX0 1 f fd ["self", "plan"] (spCourseInit K CR CP CC) := by
  refine F.ok scCourseInit (fun vs H Q E h => ?_) (fun cdv A outer s H vs Q E hr h => ?_)
  · obtain ⟨B, x, p, dx, ks, rs, rfl, _⟩ := h
    rfl
  · obtain ⟨B, x, p, dx, ks, rs, rfl, hx, eB, nB, hp, q⟩ := h
    refine ⟨_, pss_cons (ps_fld (pv 0) (pv 1) rfl)
      (pss_cons (ps_fld (pv 0) (pe_lst (pa_cons (pe_tup (pa_cons pe_str (pa_cons pe_int pa_nil))) pa_nil)) rfl)
      (pss_cons (ps_fld (pv 0) pe_int rfl)
      (pss_cons (ps_fld (pv 0) pe_non rfl)
      (pss_cons (ps_fld (pv 0) pe_non rfl)
      (pss_cons (ps_fld (pv 0) pe_dnewK rfl)
      (pss_cons (ps_fld (pv 0) pe_dnewK rfl)
      (pss_cons (ps_fld (pv 0) pe_non rfl)
      (pss_cons (ps_fld (pv 0) (pe_lst pa_nil) rfl)
      (pss_cons (ps_fld (pv 0) pe_non rfl)
      (pss_cons (ps_fld (pv 0) (pe_lst (pa_cons pe_non pa_nil)) rfl)
      (pss_cons (ps_fld (pv 0) (pe_lst pa_nil) rfl)
      (pss_one (ps_fld (pv 0) pe_dnewK rfl))))))))))))), ?_⟩
    have I0 : Ini B CC x dx H [] [] 0 := ⟨eB, nB, hx, fun q hq => (nomatch hq), List.nodup_nil, Nat.le_refl _⟩
    refine q_ini I0 (by decide) TC.cl TC.plan (Evl.ev_var rfl) (Evl.ev_var rfl) fun H1 I1 => ?_
    refine q_iniLT I1 (by decide) TC.cl TC.letters (Evl.eu_tup (Evl.ea_cons Evl.ev_c (Evl.ea_cons Evl.ev_c Evl.ea_nil)) (by show 2 ≤ 100000; decide)) (Evl.ev_var rfl) fun t L H2 I2 => ?_
    refine q_ini I2 (by decide) TC.cl TC.newest Evl.ev_c (Evl.ev_var rfl) fun H3 I3 => ?_
    refine q_ini I3 (by decide) TC.cl TC.whole Evl.ev_c (Evl.ev_var rfl) fun H4 I4 => ?_
    refine q_ini I4 (by decide) TC.cl TC.own Evl.ev_c (Evl.ev_var rfl) fun H5 I5 => ?_
    refine q_iniN I5 (by decide) TC.cl TC.came evn_dict (Evl.ev_var rfl) fun cm H6 I6 => ?_
    refine q_iniN I6 (by decide) TC.cl TC.shown evn_dict (Evl.ev_var rfl) fun sh H7 I7 => ?_
    refine q_ini I7 (by decide) TC.cl TC.off Evl.ev_c (Evl.ev_var rfl) fun H8 I8 => ?_
    refine q_iniN I8 (by decide) TC.cl TC.answers (o := .lst []) (Evl.el_lst Evl.ea_nil (Nat.zero_le _)) (Evl.ev_var rfl) fun an H9 I9 => ?_
    refine q_ini I9 (by decide) TC.cl TC.counted Evl.ev_c (Evl.ev_var rfl) fun Ha Ia => ?_
    refine q_iniN Ia (by decide) TC.cl TC.shows (o := .lst [.non]) (Evl.el_lst (Evl.ea_cons Evl.ev_c Evl.ea_nil) (by show 1 ≤ 100000; decide)) (Evl.ev_var rfl) fun sw Hb Ib => ?_
    refine q_iniN Ib (by decide) TC.cl TC.rules (o := .lst []) (Evl.el_lst Evl.ea_nil (Nat.zero_le _)) (Evl.ev_var rfl) fun rl Hc Ic => ?_
    refine s_iniN Ic (by decide) TC.cl TC.goals evn_dict (Evl.ev_var rfl) fun gl Hd Id => ?_
    let A2 : CA := ⟨x, dx, p, L, cm, sh, an, sw, rl, gl⟩
    have ef : Hd x = some (.ins CC dx (cf A2 (CM.start ks rs))) := Id.ob.trans (by kernel_rfl)
    have nd := Id.nd
    have os := Id.oo
    simp only [List.map_cons, List.map_nil, List.nodup_cons, List.mem_cons, List.not_mem_nil, or_false, not_or, not_false_eq_true, true_and, and_true] at nd
    have oG := os (gl, .dK []) (by simp)
    have oR := os (rl, .lst []) (by simp)
    have oW := os (sw, .lst [.non]) (by simp)
    have oA := os (an, .lst []) (by simp)
    have oS := os (sh, .dK []) (by simp)
    have oC := os (cm, .dK []) (by simp)
    have oL := os (L, .lst [.ref t]) (by simp)
    have oT := os (t, .tup [.str "ask", .int 0]) (by simp)
    refine q A2 Hd rfl ⟨Id.ex, fun a ha => ?_, ?_, ef, hp, ⟨_, oL.1, .cons ⟨t, rfl, oT.1⟩ .nil⟩, ⟨[], oC.1, Nat.le_refl _, fun _ => rfl⟩, ⟨[], oS.1, Nat.le_refl _, fun _ => rfl⟩, oA.1, oW.1, oR.1, ⟨[], oG.1, rfl⟩⟩
    · have ha2 : a ∈ [x, L, cm, sh, an, sw, rl, gl] := ha
      simp only [List.mem_cons, List.not_mem_nil, or_false] at ha2
      rcases ha2 with z | z | z | z | z | z | z | z
      · rw [z]; exact nB
      · rw [z]; exact oL.2.1
      · rw [z]; exact oC.2.1
      · rw [z]; exact oS.2.1
      · rw [z]; exact oA.2.1
      · rw [z]; exact oW.2.1
      · rw [z]; exact oR.2.1
      · rw [z]; exact oG.2.1
    · show [x, L, cm, sh, an, sw, rl, gl].Nodup
      have nn : ∀ {a b : Addr}, ¬ a = b → ¬ b = a := fun h z => h z.symm
      simp only [List.nodup_cons, List.mem_cons, List.not_mem_nil, or_false, not_or, not_false_eq_true, true_and, and_true, List.nodup_nil]
      obtain ⟨⟨g1, g2, g3, g4, g5, g6, g7⟩, ⟨r1, r2, r3, r4, r5, r6⟩, ⟨w1, w2, w3, w4, w5⟩, ⟨a1, a2, a3, a4⟩, ⟨s1, s2, s3⟩, ⟨c1, c2⟩, l1⟩ := nd
      exact ⟨⟨nn oL.2.2, nn oC.2.2, nn oS.2.2, nn oA.2.2, nn oW.2.2, nn oR.2.2, nn oG.2.2⟩, ⟨nn c1, nn s2, nn a3, nn w4, nn r5, nn g6⟩, ⟨nn s1, nn a2, nn w3, nn r4, nn g5⟩, ⟨nn a1, nn w2, nn r3, nn g4⟩, ⟨nn w1, nn r2, nn g3⟩, ⟨nn r1, nn g2⟩, nn g1⟩
end
end Ov


namespace Ov
open PySem PySem.Spec PyProof.Rows L2
open Evl (pss_cut tCut Ex Ev EvT EvL EvA EvU)
/-! ### a Played, play -/
def CM.goalsT (m : CM) : List Str := goalWords.filter fun g => decide (g ∈ m.goals)
def pd (a1 a2 a3 a4 a5 : Addr) (m : CM) : List (Str × V) := [("letters", .ref a1), ("shows", .ref a2), ("whole", ov m.whole), ("own", ov m.own), ("answers", .ref a3), ("counted", ov m.counted), ("rules", .ref a4), ("goals", .ref a5)]
def PlayedAt (K : PySem.W.Frag) (CD : Addr) (H : Hp) (q : Addr) (m : CM) : Prop := ∃ (dx a1 a2 a3 a4 a5 : Addr) (xs : List V), H q = some (.ins CD dx (pd a1 a2 a3 a4 a5 m)) ∧ SqT K H a1 xs ∧ LettersAt H xs m.letters ∧ SqT K H a2 (m.shows.map ov) ∧ SqT K H a3 (m.answers.map fun (i : Nat) => V.int (i : Int)) ∧ SqT K H a4 (m.rules.map ov) ∧ SqT K H a5 (m.goalsT.map V.str)
theorem PlayedAt.ex {K : PySem.W.Frag} {CD q : Addr} {H H' : Hp} {m : CM} (e : Ex H H') (h : PlayedAt K CD H q m) : PlayedAt K CD H' q m := by
  obtain ⟨dx, a1, a2, a3, a4, a5, xs, h0, h1, h2, h3, h4, h5, h6⟩ := h
  exact ⟨dx, a1, a2, a3, a4, a5, xs, e _ _ h0, Evl.ex_t e h1, h2.ex e, Evl.ex_t e h3, Evl.ex_t e h4, Evl.ex_t e h5, Evl.ex_t e h6⟩
structure TxD (K : PySem.W.Frag) (mg : Str → Option Value) (CD : Addr) : Prop where
  g_Played : mg "Played" = some (.ref CD)
  cl : Cls K CD
  letters : NoAttr K CD "letters"
  shows : NoAttr K CD "shows"
  whole : NoAttr K CD "whole"
  own : NoAttr K CD "own"
  answers : NoAttr K CD "answers"
  counted : NoAttr K CD "counted"
  rules : NoAttr K CD "rules"
  goals : NoAttr K CD "goals"
/-! goals, sorted -/
def allG : Nat → List (List Str)
  | 0 => [[]]
  | n + 1 => [] :: goalWords.flatMap fun k => (allG n).map (k :: ·)
theorem in_allG : ∀ {n : Nat} {ks : List Str}, ks.length ≤ n → (∀ k ∈ ks, k ∈ goalWords) → ks ∈ allG n
  | 0, [], _, _ => List.mem_singleton.mpr rfl
  | _ + 1, [], _, _ => List.mem_cons_self
  | n + 1, k :: ks, h, g => List.mem_cons_of_mem _ (List.mem_flatMap.mpr ⟨k, g k List.mem_cons_self, List.mem_map.mpr ⟨ks, in_allG (by simpa using h) fun x hx => g x (List.mem_cons_of_mem _ hx), rfl⟩⟩)
theorem nodup_len {α : Type} [DecidableEq α] : ∀ {l m : List α}, l.Nodup → (∀ x ∈ l, x ∈ m) → l.length ≤ m.length
  | [], _, _, _ => Nat.zero_le _
  | a :: l, m, h, g => by
    have h1 := List.nodup_cons.mp h
    have ha := g a List.mem_cons_self
    have ih := nodup_len (m := m.erase a) h1.2 fun x hx => (List.mem_erase_of_ne (fun z => h1.1 (by rw [← z]; exact hx))).mpr (g x (List.mem_cons_of_mem _ hx))
    rw [List.length_erase_of_mem ha] at ih
    have : 0 < m.length := List.length_pos_of_mem ha
    show l.length + 1 ≤ m.length
    omega
theorem goals_five {m : CM} (h : m.WF) : m.goals.length ≤ 5 := nodup_len (m := goalWords) h.gn h.gw
theorem goals_sorted {m : CM} (h : m.WF) {ys : List Str} (p : ys.Perm m.goals) (s : sortedS ys = true) : ys = m.goalsT := by
  have a : ∀ ks ∈ allG 5, sortedS ks = true → ks.Nodup → ks = goalWords.filter fun k => decide (k ∈ ks) := by decide +kernel
  have e := a ys (in_allG (by rw [p.length_eq]; exact goals_five h) fun k hk => h.gw k (p.mem_iff.mp hk)) s (p.nodup_iff.mpr h.gn)
  rw [e]
  unfold CM.goalsT
  refine List.filter_congr fun k _ => ?_
  exact decide_eq_decide.mpr p.mem_iff
section
variable {K : PySem.W.Frag} {B : Hp} {C x dx : Addr} {H : Hp} {fs : List (Str × V)} {os : List (Addr × HO)} {n : Nat} {σ : L2.St} {to te : TE} {D : Ends} {tz : TS} {f : Str}
theorem SqT.updI {a : Addr} {xs : List V} {o : HO} (hp : H x = some (.ins C dx fs)) (h : SqT K H a xs) : SqT K (upd H x o) a xs := by
  rcases h with (h | ⟨u, h⟩) | h
  · exact .inl (.inl (by rw [upd_ne (ne_of h hp (fun z => nomatch z))]; exact h))
  · exact .inl (.inr ⟨u, by rw [upd_ne (ne_of h hp (fun z => nomatch z))]; exact h⟩)
  · exact .inr h
abbrev KeepT (K : PySem.W.Frag) (H H1 : Hp) : Prop := ∀ a ys, SqT K H a ys → SqT K H1 a ys
theorem s_iniK (I : Ini B C x dx H fs os n) (hn : n < 999) (cl : Cls K C) (nf : NoAttr K C f) {v : V} (hv : Ev te σ H v) (ho : Ev to σ H (.ref x)) (k : ∀ H1, Ini B C x dx H1 (putF f v fs) os (n + 1) → KeepT K H H1 → D.nx σ H1) : sFld K to te f D σ H :=
  hv H (Ex.refl _) _ fun H1 e1 => ho H1 e1 _ fun H2 e2 => ⟨x, C, dx, fs, rfl, (I.ext (e1.trans e2)).ob, cl, nf, by have := I.ln; omega, k _ ((I.ext (e1.trans e2)).put f v) fun a ys h => SqT.updI (I.ext (e1.trans e2)).ob (Evl.ex_t (e1.trans e2) h)⟩
theorem s_iniT (I : Ini B C x dx H fs os n) (hn : n < 999) (cl : Cls K C) (nf : NoAttr K C f) {xs : List V} (hv : EvP te σ H (fun p H2 => SqT K H2 p xs)) (ho : Ev to σ H (.ref x)) (k : ∀ p H1, Ini B C x dx H1 (putF f (.ref p) fs) os (n + 1) → SqT K H1 p xs → KeepT K H H1 → D.nx σ H1) : sFld K to te f D σ H :=
  hv H (Ex.refl _) _ fun p H1 e1 st => ho H1 e1 _ fun H2 e2 => ⟨x, C, dx, fs, rfl, (I.ext (e1.trans e2)).ob, cl, nf, by have := I.ln; omega, k p _ ((I.ext (e1.trans e2)).put f (.ref p)) (SqT.updI (I.ext (e1.trans e2)).ob (Evl.ex_t e2 st)) fun a ys h => SqT.updI (I.ext (e1.trans e2)).ob (Evl.ex_t (e1.trans e2) h)⟩
theorem q_iniK (I : Ini B C x dx H fs os n) (hn : n < 999) (cl : Cls K C) (nf : NoAttr K C f) {v : V} (hv : Ev te σ H v) (ho : Ev to σ H (.ref x)) (k : ∀ H1, Ini B C x dx H1 (putF f v fs) os (n + 1) → KeepT K H H1 → tz D σ H1) : tSeq (sFld K to te f) tz D σ H := s_iniK (D := { D with nx := tz D }) I hn cl nf hv ho k
theorem q_iniT (I : Ini B C x dx H fs os n) (hn : n < 999) (cl : Cls K C) (nf : NoAttr K C f) {xs : List V} (hv : EvP te σ H (fun p H2 => SqT K H2 p xs)) (ho : Ev to σ H (.ref x)) (k : ∀ p H1, Ini B C x dx H1 (putF f (.ref p) fs) os (n + 1) → SqT K H1 p xs → KeepT K H H1 → tz D σ H1) : tSeq (sFld K to te f) tz D σ H := s_iniT (D := { D with nx := tz D }) I hn cl nf hv ho k
theorem evP_tuple {l : Addr} {xs : List V} (ha : Ev te σ H (.ref l)) (hl : H l = some (.lst xs)) : EvP (tCB (rTupAny K) (tCons te tNil)) σ H (fun p H2 => SqT K H2 p xs) := fun H1 e1 Q q =>
  ha H1 e1 _ fun H2 e2 => ⟨l, xs, rfl, .inl (Evl.sq_of (e2 _ _ (e1 _ _ hl))), fun a H3 e3 st => q a H3 (e2.trans e3) st⟩
end
def spPlayedInit (K : PySem.W.Frag) (CR CP CC CD : Addr) : Sp := fun vs H Q _ => ∃ (B B0 : Hp) (x dx : Addr) (A : CA) (m : CM), vs = [.ref x, .ref A.c] ∧ H x = some (.ins CD dx []) ∧ Ex B H ∧ B x = none ∧ CourseAt K CR CP CC B0 A m B ∧ m.WF ∧ ∀ H', Ex B H' → PlayedAt K CD H' x m → Q .non H'
def spPlay (K : PySem.W.Frag) (CR CP CD : Addr) : Sp := fun vs H Q _ => ∃ (p wv : Addr) (ks : List Str) (rs : List RuleD) (zs : List Str) (m : CM), vs = [.ref p, .ref wv] ∧ PlanIs K CR CP ks rs p H ∧ (∀ r ∈ rs, r.Good) ∧ rs.length ≤ 1000 ∧ (SqL K H wv (zs.map V.str) ∨ SqT K H wv (zs.map V.str)) ∧ zs.length ≤ 100 ∧ (∀ z ∈ zs, EvOk z) ∧ (CM.start ks rs).goAll zs = some m ∧
  ∀ q H', Ex H H' → PlayedAt K CD H' q m → Q (.ref q) H'
section
variable {P : Program} {w : World} {K : PySem.W.Frag} {mg : Str → Option Value} {base : Heap} {a_LETTERS a_LETTER_TESTS a_LETTER_DEEDS a_ANSWER_TESTS a_ANSWER_DEEDS CR CP CC CD a_HOLDS a_DEEDS : Addr} {tA tN tO : Tok}
theorem scPlayedInit : FnScope ["self", "course"] ["self", "course"] (defScope sPlayedInit) := ⟨rfl, rfl, rfl, by decide +kernel, rfl, by decide +kernel, by decide +kernel⟩
theorem scPlay : FnScope ["plan", "weaving", "course", "at", "event"] ["plan", "weaving"] (defScope sPlay) := ⟨rfl, rfl, rfl, by decide +kernel, rfl, by decide +kernel, by decide +kernel⟩
theorem ok_played_init {f : Addr} {fd : FuncData} (F : Fun K "__init__" "Played.__init__" sPlayedInit f fd) (T : TxR K mg a_LETTERS a_LETTER_TESTS a_LETTER_DEEDS a_ANSWER_TESTS a_ANSWER_DEEDS CR tA tN) (TP : TxP K mg CP) (TC : TxC K mg CC tO) (TD : TxD K mg CD) : FnOk P w K mg base CX0 1 f fd ["self", "course"] (spPlayedInit K CR CP CC CD) := by
  refine F.ok scPlayedInit (fun vs H Q E h => ?_) (fun cdv A outer s H vs Q E hr h => ?_)
  · obtain ⟨B, B0, x, dx, A, m, rfl, _⟩ := h
    rfl
  · obtain ⟨B, B0, x, dx, A, m, rfl, hx, eB, nB, c, hw, q⟩ := h
    refine ⟨_, pss_cons (ps_fld (pv 0) (pe_callTy call_tuple_any (by rfl) T.n_tuple (by decide +kernel) (pa_cons (pe_fld (pv 1) rfl) pa_nil)) rfl)
      (pss_cons (ps_fld (pv 0) (pe_callTy call_tuple_any (by rfl) T.n_tuple (by decide +kernel) (pa_cons (pe_fld (pv 1) rfl) pa_nil)) rfl)
      (pss_cons (ps_fld (pv 0) (pe_fld (pv 1) rfl) rfl)
      (pss_cons (ps_fld (pv 0) (pe_fld (pv 1) rfl) rfl)
      (pss_cons (ps_fld (pv 0) (pe_callTy call_tuple_any (by rfl) T.n_tuple (by decide +kernel) (pa_cons (pe_fld (pv 1) rfl) pa_nil)) rfl)
      (pss_cons (ps_fld (pv 0) (pe_fld (pv 1) rfl) rfl)
      (pss_cons (ps_fld (pv 0) (pe_callTy call_tuple_any (by rfl) T.n_tuple (by decide +kernel) (pa_cons (pe_fld (pv 1) rfl) pa_nil)) rfl)
      (pss_one (ps_fld (pv 0) (pe_callTy call_tuple_any (by rfl) T.n_tuple (by decide +kernel) (pa_cons (pe_callB (call_sortedD rfl) (by rfl) TP.n_sorted (by decide +kernel) (pa_cons (pe_fld (pv 1) rfl) pa_nil)) pa_nil)) rfl)))))))), ?_⟩
    have I0 : Ini B CD x dx H [] [] 0 := ⟨eB, nB, hx, fun q hq => (nomatch hq), List.nodup_nil, Nat.le_refl _⟩
    obtain ⟨xs, l1, l2⟩ := c.lts
    have fl : ∀ {H1 : Hp} {y : Str} {v : V}, Ex B H1 → NoAttr K CC y → (cf A m).lookup y = some v → Ev (tFld K (tVar 1) y) (L2.start ["self", "course"] [.ref x, .ref A.c]) H1 v := fun e no lk => (c.ext e).f TC.cl no lk (Evl.ev_var rfl)
    refine q_iniT I0 (by decide) TD.cl TD.letters (evP_tuple (fl I0.ex TC.letters cf_letters) (I0.ex _ _ l1)) (Evl.ev_var rfl) fun a1 H1 I1 s1 k1 => ?_
    refine q_iniT I1 (by decide) TD.cl TD.shows (evP_tuple (fl I1.ex TC.shows cf_shows) (I1.ex _ _ c.sw)) (Evl.ev_var rfl) fun a2 H2 I2 s2 k2 => ?_
    refine q_iniK I2 (by decide) TD.cl TD.whole (fl I2.ex TC.whole cf_whole) (Evl.ev_var rfl) fun H3 I3 k3 => ?_
    refine q_iniK I3 (by decide) TD.cl TD.own (fl I3.ex TC.own cf_own) (Evl.ev_var rfl) fun H4 I4 k4 => ?_
    refine q_iniT I4 (by decide) TD.cl TD.answers (evP_tuple (fl I4.ex TC.answers cf_answers) (I4.ex _ _ c.an)) (Evl.ev_var rfl) fun a3 H5 I5 s5 k5 => ?_
    refine q_iniK I5 (by decide) TD.cl TD.counted (fl I5.ex TC.counted cf_counted) (Evl.ev_var rfl) fun H6 I6 k6 => ?_
    refine q_iniT I6 (by decide) TD.cl TD.rules (evP_tuple (fl I6.ex TC.rules cf_rules) (I6.ex _ _ c.rl)) (Evl.ev_var rfl) fun a4 H7 I7 s7 k7 => ?_
    obtain ⟨kvs, g1, g2⟩ := c.gl
    refine s_iniT (xs := m.goalsT.map V.str) I7 (by decide) TD.cl TD.goals (fun H8 e8 Q8 q8 => ?_) (Evl.ev_var rfl) fun a5 H9 I9 s9 k9 => ?_
    · refine (fl I7.ex TC.goals cf_goals) H8 e8 _ fun H9 e9 => ⟨A.gl, kvs, m.goals, rfl, .inl ((I7.ex.trans (e8.trans e9)) _ _ g1), g2, by have := goals_five hw; omega, fun ys l hp hs nl => ?_⟩
      rw [goals_sorted hw hp hs]
      exact ⟨l, _, rfl, .inl (Evl.sq_of upd_same), fun a Ha ea st => q8 a Ha ((e9.trans (Ex.new nl)).trans ea) st⟩
    · refine q H9 I9.ex ⟨dx, a1, a2, a3, a4, a5, xs, I9.ob.trans (by kernel_rfl), k9 _ _ (k7 _ _ (k6 _ _ (k5 _ _ (k4 _ _ (k3 _ _ (k2 _ _ s1)))))), l2.ex I9.ex, k9 _ _ (k7 _ _ (k6 _ _ (k5 _ _ (k4 _ _ (k3 _ _ s2))))), k9 _ _ (k7 _ _ (k6 _ _ s5)), k9 _ _ s7, s9⟩
theorem goAll_step {m mF : CM} {zs : List Str} {i : Nat} {z : Str} (h : m.goAll (zs.drop i) = some mF) (hz : zs[i]? = some z) : ∃ m2, m.goOn z = some m2 ∧ m2.goAll (zs.drop (i + 1)) = some mF := by
  have hi := (List.getElem?_eq_some_iff.mp hz).1
  have e : zs.drop i = z :: zs.drop (i + 1) := by
    rw [List.drop_eq_getElem_cons hi, (List.getElem?_eq_some_iff.mp hz).2]
  rw [e] at h
  exact Option.bind_eq_some_iff.mp h
theorem ok_play {f fSeq fCI fGo fPI : Addr} {fd fdSeq fdCI fdGo fdPI : FuncData} (F : Fun K "play" "play" sPlay f fd) (T : TxR K mg a_LETTERS a_LETTER_TESTS a_LETTER_DEEDS a_ANSWER_TESTS a_ANSWER_DEEDS CR tA tN) (TW : TxW K w mg a_HOLDS) (TC : TxC K mg CC tO) (TD : TxD K mg CD)
    (D_is_sequence : Df K mg "is_sequence" sIsSequence ["value"] fSeq fdSeq)
    (mkC : Mk K CC fCI) (G_cinit : FnOk P w K mg base CX0 1 fCI fdCI ["self", "plan"] (spCourseInit K CR CP CC)) (b_cinit : Binds K fdCI ["self", "plan"] [])
    (D_go_on : Df K mg "go_on" sGoOn ["course", "event", "at"] fGo fdGo) (G_go_on : FnOk P w K mg base CX0 5 fGo fdGo ["course", "event", "at"] (spGoOn K CR CP CC))
    (mkD : Mk K CD fPI) (G_pinit : FnOk P w K mg base CX0 1 fPI fdPI ["self", "course"] (spPlayedInit K CR CP CC CD)) (b_pinit : Binds K fdPI ["self", "course"] []) :
    FnOk P w K mg base CX0 6 f fd ["plan", "weaving"] (spPlay K CR CP CD) := by
  have G_is_sequence : FnOk P w K mg base CX0 1 fSeq fdSeq ["value"] (spIsSeq K) := ok_is_sequence D_is_sequence.F T
  refine F.ok scPlay (fun vs H Q E h => ?_) (fun cdv A outer s H vs Q E hr h => ?_)
  · obtain ⟨p, wv, ks, rs, zs, m, rfl, _⟩ := h
    rfl
  · obtain ⟨p, wv, ks, rs, zs, mF, rfl, hp, hg, hz, hS, hl, ho, hF, q⟩ := h
    have hr2 : Room 2 (A.deeper (envOfC "play" (defScope sPlay) s.heap.objs.size f cdv)) := hr.mono (by decide)
    refine ⟨_, pss_cons (ps_if (pt_not (pt_val (pe_call G_is_sequence (hr.mono (by decide)) rfl D_is_sequence.g D_is_sequence.F.kp D_is_sequence.b .nil pass0 (pa_cons (pv 1) pa_nil)))) (pss_one ps_never) pss_nil)
      (pss_cons (ps_set (i := 2) scPlay.nd rfl (.inl rfl) (pe_make (sp := spCourseInit K CR CP CC) (E := E0) mkC G_cinit hr2 rfl TC.g_Course b_cinit .nil pass0 (pa_cons (pv 0) pa_nil)))
      (pss_cut (ps_for PassesOwn.never rfl (pi_enumB (by rfl) TW.n_enumerate (pa_cons (pv 1) pa_nil)) (pg_tup (by rfl) (pgs_cons (pg_name (i := 3) scPlay.nd rfl (Or.inl rfl)) (pgs_cons (pg_name (i := 4) scPlay.nd rfl (Or.inl rfl)) pgs_nil))) (pss_one (ps_expr (pe_call G_go_on (hr.mono (by decide)) rfl D_go_on.g D_go_on.F.kp D_go_on.b .nil pass0 (pa_cons (pv 2) (pa_cons (pv 4) (pa_cons (pv 3) pa_nil)))))))
      (pss_one (ps_ret (pe_make (sp := spPlayedInit K CR CP CC CD) (E := E0) mkD G_pinit hr2 rfl TD.g_Played b_pinit .nil pass0 (pa_cons (pv 2) pa_nil)))))), ?_⟩
    refine Evl.q_when (b := false) (Evl.et_is (Evl.et_not (a := true) (Evl.et_B (ev_call (Evl.ea_cons (Evl.ev_var rfl) Evl.ea_nil) fun H1 e1 Q1 q1 => ⟨wv, _, rfl, exB e1 hS, fun H2 e2 => q1 H2 e2⟩))) rfl) (fun z => nomatch z) (fun _ H1 e1 => ?_)
    refine q_put ⟨_, rfl, fun x dx nx ndx ne => ?_⟩
    have e2 : Ex H1 (upd (upd H1 dx (.own x)) x (.ins CC dx [])) := (Ex.new ndx).trans (Ex.new (by rw [upd_ne ne.symm]; exact nx))
    refine ⟨H1, x, p, dx, ks, rs, rfl, upd_same, e2, nx, hp.ex e1, fun A2 H2 eA c2 => ⟨rfl, ?_⟩⟩
    subst eA
    have hS1 := exB e1 hS
    -- the loop
    let Pv : Nat → L2.St → Hp → Prop := fun i σ H' => ∃ (x3 x4 : Option V) (m : CM), σ = [some (.ref p), some (.ref wv), some (.ref A2.c), x3, x4] ∧ CourseAt K CR CP CC H1 A2 m H' ∧ m.WF ∧ m.Le (1 + 8 * i) ∧ m.goAll (zs.drop i) = some mF
    have start : Pv 0 [some (.ref p), some (.ref wv), some (.ref A2.c), none, none] H2 := ⟨none, none, CM.start ks rs, rfl, c2, CM.WF.start hg hz, ⟨Nat.le_refl _, Nat.zero_le _, Nat.le_refl _, Nat.zero_le _, Nat.zero_le _, Nat.zero_le _, Nat.zero_le _⟩, hF⟩
    refine Evl.q_cut (M := fun σ' H' => σ'[2]? = some (some (.ref A2.c)) ∧ CourseAt K CR CP CC H1 A2 mF H' ∧ mF.WF) ?_ (fun σ' H' hh => ?_)
    · have turn : ∀ {D : Ends} (i : Nat) (x : V) (σ : L2.St) (H3 H4 : Hp), i < (zs.map V.str).length → Pv i σ H3 → YPair (fun i => some (.int (i : Int))) (fun i => (zs.map V.str)[i]?) i H3 x H4 →
          (gTup K 2 (gCons (gName 3) (gCons (gName 4) gNil))) x σ H4 fun σ2 H5 => tDrop (tCall (spGoOn K CR CP CC) [] E0 (tCons (tVar 2) (tCons (tVar 4) (tCons (tVar 3) tNil)))) { D with nx := Pv (i + 1), ct := Pv (i + 1), bk := D.nx } σ2 H5 := by
        rintro D i x σ H3 H4 hi ⟨x3, x4, m, rfl, c3, hw, hle, hgo⟩ ⟨T0, _, y, rfl, nT, rfl, hc, hy⟩
        obtain rfl := Option.some.inj hc
        replace hy : (zs.map V.str)[i]? = some y := hy
        obtain ⟨z, rfl, hz2⟩ := strs_at hy
        obtain ⟨m2, g1, g2⟩ := goAll_step hgo hz2
        have c4 := c3.ext (Ex.new (o := .tup [.int (i : Int), .str z]) nT)
        have oz := ho z (List.mem_of_getElem? hz2)
        rw [List.length_map] at hi
        refine ⟨T0, _, rfl, Evl.st_of upd_same, rfl, _, _, rfl, _, _, rfl, rfl, ?_⟩
        exact ⟨_, rfl, _, rfl, _, rfl, H1, A2, m, m2, z, (i : Int), rfl, c4, hw, hle.mono (by omega), oz, g1, fun H5 c5 => ⟨_, _, m2, rfl, c5, hw.goOn oz g1, (hle.goOn g1).mono (by omega), g2⟩⟩
      have fin : ∀ σ H', Pv (zs.map V.str).length σ H' → σ[2]? = some (some (.ref A2.c)) ∧ CourseAt K CR CP CC H1 A2 mF H' ∧ mF.WF := by
        rintro σ H' ⟨x3, x4, m, rfl, c3, hw, hle, hgo⟩
        rw [List.length_map, List.drop_length] at hgo
        have := Option.some.inj hgo
        subst this
        exact ⟨rfl, c3, hw⟩
      rcases hS1 with hL | hT
      · refine .inl ⟨_, rfl, wv, _, rfl, Evl.ex_l c2.ex hL, for_it (walk_enum (xs := zs.map V.str)) Pv start ?_ (fun i x σ H3 H4 hi hP hY => turn i x σ H3 H4 hi hP hY) fin⟩
        rintro i σ H' _ ⟨_, _, m, _, c3, _⟩
        exact Evl.ex_l c3.ex hL
      · refine .inr ⟨_, rfl, wv, _, rfl, Evl.ex_t c2.ex hT, for_it (walk_enumT (xs := zs.map V.str)) Pv start ?_ (fun i x σ H3 H4 hi hP hY => turn i x σ H3 H4 hi hP hY) fin⟩
        rintro i σ H' _ ⟨_, _, m, _, c3, _⟩
        exact Evl.ex_t c3.ex hT
    · obtain ⟨h2, c3, hw⟩ := hh
      refine ⟨_, h2, fun x2 dx2 nx2 ndx2 ne2 => ?_⟩
      have e5 : Ex H' (upd (upd H' dx2 (.own x2)) x2 (.ins CD dx2 [])) := (Ex.new ndx2).trans (Ex.new (by rw [upd_ne ne2.symm]; exact nx2))
      exact ⟨H', H1, x2, dx2, A2, mF, rfl, upd_same, e5, nx2, c3, hw, fun H6 e6 pa => ⟨rfl, q x2 H6 (e1.trans (c3.ex.trans e6)) pa⟩⟩
end
end Ov


namespace Ov
open PySem PySem.Spec PyProof.Rows L2
open Evl (pss_cut tCut Ex Ev EvT EvL EvA EvU)
/-! ### what is told by a Played, as data -/
def dO : Option Nat → PyData
  | none => .none
  | some i => .int (i : Int)
def dL (l : Str × Int) : PyData := .tuple [.str l.1, .int l.2]
/-- data that can be compared, like itself -/
structure GD (d : PyData) (n : Nat) : Prop where
  lay : PyData.canLay0 d = true
  deep : PyData.depth d ≤ n
  same : PyData.eqv d d = true
theorem GD.none (n : Nat) : GD .none n := ⟨rfl, Nat.zero_le _, rfl⟩
theorem GD.int (i : Int) (n : Nat) : GD (.int i) n := ⟨rfl, Nat.zero_le _, by
  show (i == i) = true
  exact beq_self_eq_true i⟩
theorem GD.str {x : Str} (h : PyData.canLay0 (.str x) = true) (n : Nat) : GD (.str x) n := ⟨h, Nat.zero_le _, by
  show (x == x) = true
  exact beq_self_eq_true x⟩
theorem GD.all : ∀ {ds : List PyData} {n : Nat}, (∀ d ∈ ds, GD d n) → PyData.canLayAll0 ds = true ∧ PyData.depthAll ds ≤ n ∧ PyData.eqvAll ds ds = true
  | [], _, _ => ⟨rfl, Nat.zero_le _, rfl⟩
  | d :: ds, n, h => by
    have h1 := h d List.mem_cons_self
    have h2 := GD.all fun x hx => h x (List.mem_cons_of_mem _ hx)
    refine ⟨?_, ?_, ?_⟩
    · show (PyData.canLay0 d && PyData.canLayAll0 ds) = true
      rw [h1.lay, h2.1]
      rfl
    · show max (PyData.depth d) (PyData.depthAll ds) ≤ n
      exact Nat.max_le.mpr ⟨h1.deep, h2.2.1⟩
    · show (PyData.eqv d d && PyData.eqvAll ds ds) = true
      rw [h1.same, h2.2.2]
      rfl
theorem GD.tup {ds : List PyData} {n : Nat} (h : ∀ d ∈ ds, GD d n) : GD (.tuple ds) (n + 1) := by
  obtain ⟨h1, h2, h3⟩ := GD.all h
  exact ⟨h1, Nat.succ_le_succ h2, h3⟩
theorem GD.shaped {d : PyData} {n : Nat} (h : GD d n) (hn : n ≤ 64) : SeqAt.shaped d = true := by
  show (PyData.canLay0 d && decide (d.depth ≤ 64)) = true
  rw [h.lay, decide_eq_true (Nat.le_trans h.deep hn)]
  rfl
theorem GD.ov (p : Option Nat) (n : Nat) : GD (dO p) n := by
  cases p with
  | none => exact GD.none n
  | some i => exact GD.int _ n
theorem GD.ovs (l : List (Option Nat)) : GD (.tuple (l.map dO)) 1 := GD.tup (n := 0) fun d hd => by
  obtain ⟨x, _, rfl⟩ := List.mem_map.mp hd
  exact GD.ov x 0
theorem GD.nats (l : List Nat) : GD (.tuple (l.map fun (i : Nat) => PyData.int (i : Int))) 1 := GD.tup (n := 0) fun d hd => by
  obtain ⟨x, _, rfl⟩ := List.mem_map.mp hd
  exact GD.int _ 0
theorem GD.strs {l : List Str} (h : Plain l) : GD (.tuple (l.map PyData.str)) 1 := GD.tup (n := 0) fun d hd => by
  obtain ⟨x, hx, rfl⟩ := List.mem_map.mp hd
  exact GD.str (h x hx) 0
theorem GD.letters {m : CM} (hw : m.WF) : GD (.tuple (m.letters.map dL)) 2 := GD.tup (n := 1) fun d hd => by
  obtain ⟨l, hl, rfl⟩ := List.mem_map.mp hd
  have a : ∀ k ∈ letterKinds ++ [("other" : Str)], PyData.canLay0 (.str k) = true := by decide +kernel
  refine GD.tup (n := 0) fun e he => ?_
  simp only [List.mem_cons, List.not_mem_nil, or_false] at he
  rcases he with rfl | rfl
  · exact GD.str (a _ ((hw.kinds l hl).elim (fun z => List.mem_append_left _ z) (fun z => List.mem_append_right _ (List.mem_singleton.mpr z)))) 0
  · exact GD.int _ 0
theorem goalsT_plain (m : CM) : Plain m.goalsT := fun x hx => by
  have a : ∀ k ∈ goalWords, PyData.canLay0 (.str k) = true := by decide +kernel
  exact a x (List.mem_filter.mp hx).1
section
variable {K : PySem.W.Frag} {H : Hp} {σ : L2.St} {ta tb te : TE}
theorem dp_ov (p : Option Nat) : Dp K H (ov p) (dO p) := by
  cases p with
  | none => exact .non
  | some i => exact .int _
theorem dpa_ovs : ∀ l : List (Option Nat), DpAll K H (l.map ov) (l.map dO)
  | [] => .nil
  | p :: r => .cons (dp_ov p) (dpa_ovs r)
theorem dpa_nats : ∀ l : List Nat, DpAll K H (l.map fun (i : Nat) => V.int (i : Int)) (l.map fun (i : Nat) => PyData.int (i : Int))
  | [] => .nil
  | p :: r => .cons (.int _) (dpa_nats r)
theorem dpa_letters : ∀ {xs : List V} {ls : List (Str × Int)}, LettersAt H xs ls → DpAll K H xs (ls.map dL)
  | _, _, .nil => .nil
  | _, _, .cons ⟨t, h1, h2⟩ r => by
    rw [h1]
    exact .cons (.tup (Evl.st_of h2) (.cons (.str _) (.cons (.int _) .nil))) (dpa_letters r)
/-- != and == of what is alike -/
theorem rv_neSame {x y : V} {d : PyData} {n : Nat} (hx : ∀ H1, Ex H H1 → Dp K H1 x d) (hy : ∀ H1, Ex H H1 → Dp K H1 y d) (g : GD d n) (hn : n ≤ 64) : Evl.RV (rNeD K) x y H (.bl false) := fun H1 e Q q => ⟨d, d, hx H1 e, hy H1 e, g.shaped hn, g.shaped hn, by
  rw [g.same]
  exact q H1 (Ex.refl H1)⟩
theorem rv_eqSame {x y : V} {d : PyData} {n : Nat} (hx : ∀ H1, Ex H H1 → Dp K H1 x d) (hy : ∀ H1, Ex H H1 → Dp K H1 y d) (g : GD d n) (hn : n ≤ 64) : Evl.RV (rEqD K) x y H (.bl true) := fun H1 e Q q => ⟨d, d, hx H1 e, hy H1 e, g.shaped hn, g.shaped hn, by
  rw [g.same]
  exact q H1 (Ex.refl H1)⟩
theorem ev_neOv {p : Option Nat} (ha : Ev ta σ H (ov p)) (hb : Ev tb σ H (ov p)) : Ev (tOp (rNeD K) ta tb) σ H (.bl false) := Evl.ev_op ha hb (rv_neSame (fun _ _ => dp_ov p) (fun _ _ => dp_ov p) (GD.ov p 0) (by decide))
theorem ev_neInt {i : Int} (ha : Ev ta σ H (.int i)) (hb : Ev tb σ H (.int i)) : Ev (tOp (rNeD K) ta tb) σ H (.bl false) := Evl.ev_op ha hb (rv_neSame (fun _ _ => .int i) (fun _ _ => .int i) (GD.int i 0) (by decide))
theorem ev_lenT {p : Addr} {xs : List V} (ha : Ev ta σ H (.ref p)) (h : SqT K H p xs) : Ev (tCB (Evl.rLenS K) (tCons ta tNil)) σ H (.int (xs.length : Int)) := fun H1 e Q q =>
  ha H1 e _ fun H2 e2 => ⟨p, xs, rfl, .inr (Evl.ex_t (e.trans e2) h), q H2 e2⟩
end
section
variable {a1 a2 a3 a4 a5 : Addr} {m : CM}
theorem pd_letters : (pd a1 a2 a3 a4 a5 m).lookup ("letters" : Str) = some (.ref a1) := by kernel_rfl
theorem pd_shows : (pd a1 a2 a3 a4 a5 m).lookup ("shows" : Str) = some (.ref a2) := by kernel_rfl
theorem pd_whole : (pd a1 a2 a3 a4 a5 m).lookup ("whole" : Str) = some (ov m.whole) := by kernel_rfl
theorem pd_own : (pd a1 a2 a3 a4 a5 m).lookup ("own" : Str) = some (ov m.own) := by kernel_rfl
theorem pd_answers : (pd a1 a2 a3 a4 a5 m).lookup ("answers" : Str) = some (.ref a3) := by kernel_rfl
theorem pd_counted : (pd a1 a2 a3 a4 a5 m).lookup ("counted" : Str) = some (ov m.counted) := by kernel_rfl
theorem pd_rules : (pd a1 a2 a3 a4 a5 m).lookup ("rules" : Str) = some (.ref a4) := by kernel_rfl
theorem pd_goals : (pd a1 a2 a3 a4 a5 m).lookup ("goals" : Str) = some (.ref a5) := by kernel_rfl
end
/-! ### checks of written plans and weavings, by reckoning -/
def wordB (z word : Str) : Bool := !Txt.isdecimal (Txt.removeprefix z word) || match PySem.intText? (Txt.removeprefix z word) with
  | some n => decide (0 ≤ n) && decide (n < 1000000)
  | none => false
theorem wordB_ok {z word : Str} (h : wordB z word = true) : WordOk z word := fun hd => by
  unfold wordB at h
  rw [hd] at h
  cases e : PySem.intText? (Txt.removeprefix z word) with
  | none =>
    rw [e] at h
    cases h
  | some n =>
    rw [e] at h
    simp only [Bool.not_true, Bool.false_or, Bool.and_eq_true, decide_eq_true_eq] at h
    refine ⟨n.toNat, by rw [Int.toNat_of_nonneg h.1], Nat.lt_of_lt_of_le (show n.toNat < 1000000 by omega) ?_⟩
    exact Nat.le_trans (by decide : 1000000 ≤ 2 ^ 20) (Nat.pow_le_pow_right (by decide) (by decide))
def evB (z : Str) : Bool := decide (z.length ≤ 600) && (decide ((Txt.removeprefix z "come ").length ≤ 600) && (decide ((Txt.removeprefix z "heard ").length ≤ 600) && (wordB z "come " && wordB z "heard ")))
theorem evB_ok {z : Str} (h : evB z = true) : EvOk z := by
  unfold evB at h
  simp only [Bool.and_eq_true, decide_eq_true_eq] at h
  exact ⟨h.1, h.2.1, h.2.2.1, wordB_ok h.2.2.2.1, wordB_ok h.2.2.2.2⟩
def ruleB (r : RuleD) : Bool := decide (r.k ∈ kindsAll) && (r.ts.all (fun t => decide (t ∈ testsNot r.k)) && (r.ds.all (fun d => decide (d ∈ deedsOf r.k)) && (decide (r.ts.length ≤ 1000) && decide (r.ds.length ≤ 1000))))
theorem ruleB_ok {r : RuleD} (h : ruleB r = true) : r.Good := by
  unfold ruleB at h
  simp only [Bool.and_eq_true, decide_eq_true_eq, List.all_eq_true] at h
  exact ⟨h.1, h.2.1, h.2.2.1, h.2.2.2.1, h.2.2.2.2⟩
def planB (ks : List Str) (rs : List RuleD) : Bool := ks.isSublist lettersL && (rs.all ruleB && decide (rs.length ≤ 10))
theorem planB_ok {ks : List Str} {rs : List RuleD} (h : planB ks rs = true) : PlanOk ks rs := by
  unfold planB at h
  simp only [Bool.and_eq_true, decide_eq_true_eq, List.all_eq_true] at h
  exact ⟨List.isSublist_iff_sublist.mp h.1, fun r hr => ruleB_ok (h.2.1 r hr), h.2.2⟩
theorem goAll_wf : ∀ {zs : List Str} {m mF : CM}, m.WF → (∀ z ∈ zs, EvOk z) → m.goAll zs = some mF → mF.WF
  | [], _, _, h, _, e => by
    cases Option.some.inj e
    exact h
  | z :: r, _, _, h, o, e => by
    obtain ⟨m2, h1, h2⟩ := Option.bind_eq_some_iff.mp e
    exact goAll_wf (h.goOn (o z List.mem_cons_self) h1) (fun x hx => o x (List.mem_cons_of_mem _ hx)) h2
end Ov


namespace Ov
open PySem PySem.Spec PyProof.Rows L2
open Evl (pss_cut tCut Ex Ev EvT EvL EvA EvU)
/-! ### a post as data -/
structure DD where
  g : Option Str
  d : Option Nat
  e : Str
deriving DecidableEq
structure PoM where
  ks : List Str
  rs : List RuleD
  days : Nat
  ds : List DD
def gv : Option Str → V
  | none => .non
  | some x => .str x
abbrev L3 : Type := Str × Option Nat × Int
def lastN (l : List L3) : Int := (l.getLast?.map fun x => x.2.2).getD 0
def sent1 (ks : List Str) (l : List L3) (x : DD) : List L3 := if x.g = none then l ++ [(x.e, x.d, lastN l + if x.e ∈ ks then 1 else 0)] else l
def sentOf (ks : List Str) (ds : List DD) : List L3 := ds.foldl (sent1 ks) [("ask", none, 0)]
def PoM.sent (m : PoM) : List L3 := sentOf m.ks m.ds
def PoM.given (m : PoM) : List (Option Str × Option Nat) := (m.ds.filter fun x => decide (x.e = ("answer" : Str))).map fun x => (x.g, x.d)
def PoM.do (m : PoM) (x : DD) : PoM := { m with ds := m.ds ++ [x] }
def fits (x : DD) (d : Nat) : Bool := decide (x.d = none) || decide (x.d = some d)
def weave1 (g : Str) (d : Nat) (l : List Str) (x : DD) : List Str := if x.g = none then l ++ [if fits x d = true then x.e else ("other " : Str) ++ x.e] else if (decide (x.g = some g) && fits x d) = true then l ++ [x.e] else l
def PoM.weave (m : PoM) (g : Str) (d : Nat) : List Str := m.ds.foldl (weave1 g d) []
/-! ### a post in the heap -/
def DeedsAt (H : Hp) (xs : List V) (ds : List DD) : Prop := Paired (fun x d => ∃ t, x = V.ref t ∧ H t = some (.tup [gv d.g, ov d.d, .str d.e])) xs ds
def SentAt (H : Hp) (xs : List V) (ls : List L3) : Prop := Paired (fun x (l : L3) => ∃ t, x = V.ref t ∧ H t = some (.tup [.str l.1, ov l.2.1, .int l.2.2])) xs ls
def GivenAt (H : Hp) (xs : List V) (ls : List (Option Str × Option Nat)) : Prop := Paired (fun x l => ∃ t, x = V.ref t ∧ H t = some (.tup [gv l.1, ov l.2])) xs ls
theorem tups_keep {α : Type} {f : α → List V} {H H' : Hp} (k : ∀ t zs, H t = some (.tup zs) → H' t = some (.tup zs)) : ∀ {xs : List V} {ls : List α}, Paired (fun x l => ∃ t, x = V.ref t ∧ H t = some (.tup (f l))) xs ls → Paired (fun x l => ∃ t, x = V.ref t ∧ H' t = some (.tup (f l))) xs ls
  | _, _, .nil => .nil
  | _, _, .cons ⟨t, h1, h2⟩ r => .cons ⟨t, h1, k _ _ h2⟩ (tups_keep k r)
theorem tups_at {α : Type} {f : α → List V} {H : Hp} : ∀ {xs : List V} {ls : List α} {i : Nat} {x : V}, Paired (fun x l => ∃ t, x = V.ref t ∧ H t = some (.tup (f l))) xs ls → xs[i]? = some x → ∃ t l, x = .ref t ∧ ls[i]? = some l ∧ H t = some (.tup (f l))
  | _, _, _, _, .nil, h => nomatch h
  | _, _, 0, _, .cons ⟨t, h1, h2⟩ r, h => ⟨t, _, (Option.some.inj h).symm.trans h1, rfl, h2⟩
  | _, _, i + 1, _, .cons ⟨t, h1, h2⟩ r, h => tups_at (i := i) r h
theorem tups_snoc {α : Type} {f : α → List V} {H : Hp} {t : Addr} {l : α} (h : H t = some (.tup (f l))) : ∀ {xs : List V} {ls : List α}, Paired (fun x l => ∃ t, x = V.ref t ∧ H t = some (.tup (f l))) xs ls → Paired (fun x l => ∃ t, x = V.ref t ∧ H t = some (.tup (f l))) (xs ++ [.ref t]) (ls ++ [l])
  | _, _, .nil => .cons ⟨t, rfl, h⟩ .nil
  | _, _, .cons a r => .cons a (tups_snoc h r)
theorem keep_new {H : Hp} {p : Addr} {o : HO} (h : H p = none) : ∀ t zs, H t = some (.tup zs) → upd H p o t = some (.tup zs) := fun _ _ e => Ex.new h _ _ e
theorem keep_upd {H : Hp} {p : Addr} {o u : HO} (h : H p = some u) (nt : ∀ zs, u ≠ .tup zs) : ∀ t zs, H t = some (.tup zs) → upd H p o t = some (.tup zs) := fun _ zs e => by
  rw [upd_ne (ne_of e h fun z => nt zs z.symm)]
  exact e
theorem DeedsAt.keep {H H' : Hp} {xs : List V} {ds : List DD} (h : DeedsAt H xs ds) (k : ∀ t zs, H t = some (.tup zs) → H' t = some (.tup zs)) : DeedsAt H' xs ds := tups_keep (f := fun d : DD => [gv d.g, ov d.d, .str d.e]) k h
theorem DeedsAt.snoc {H : Hp} {xs : List V} {ds : List DD} {t : Addr} {d : DD} (h : DeedsAt H xs ds) (ht : H t = some (.tup [gv d.g, ov d.d, .str d.e])) : DeedsAt H (xs ++ [.ref t]) (ds ++ [d]) := tups_snoc (f := fun d : DD => [gv d.g, ov d.d, .str d.e]) ht h
theorem SentAt.keep {H H' : Hp} {xs : List V} {ls : List L3} (h : SentAt H xs ls) (k : ∀ t zs, H t = some (.tup zs) → H' t = some (.tup zs)) : SentAt H' xs ls := tups_keep (f := fun l : L3 => [.str l.1, ov l.2.1, .int l.2.2]) k h
theorem SentAt.snoc {H : Hp} {xs : List V} {ls : List L3} {t : Addr} {l : L3} (h : SentAt H xs ls) (ht : H t = some (.tup [.str l.1, ov l.2.1, .int l.2.2])) : SentAt H (xs ++ [.ref t]) (ls ++ [l]) := tups_snoc (f := fun l : L3 => [.str l.1, ov l.2.1, .int l.2.2]) ht h
theorem GivenAt.keep {H H' : Hp} {xs : List V} {ls : List (Option Str × Option Nat)} (h : GivenAt H xs ls) (k : ∀ t zs, H t = some (.tup zs) → H' t = some (.tup zs)) : GivenAt H' xs ls := tups_keep (f := fun l : Option Str × Option Nat => [gv l.1, ov l.2]) k h
theorem GivenAt.snoc {H : Hp} {xs : List V} {ls : List (Option Str × Option Nat)} {t : Addr} {l : Option Str × Option Nat} (h : GivenAt H xs ls) (ht : H t = some (.tup [gv l.1, ov l.2])) : GivenAt H (xs ++ [.ref t]) (ls ++ [l]) := tups_snoc (f := fun l : Option Str × Option Nat => [gv l.1, ov l.2]) ht h
abbrev qf (p dd : Addr) (n : Nat) : List (Str × V) := [("plan", .ref p), ("days", .int (n : Int)), ("deeds", .ref dd)]
def PostAt (K : PySem.W.Frag) (CR CP CQ : Addr) (H : Hp) (q : Addr) (m : PoM) : Prop := ∃ (dx p dd : Addr) (xs : List V), H q = some (.ins CQ dx (qf p dd m.days)) ∧ PlanIs K CR CP m.ks m.rs p H ∧ SqT K H dd xs ∧ DeedsAt H xs m.ds
theorem PostAt.ex {K : PySem.W.Frag} {CR CP CQ q : Addr} {H H' : Hp} {m : PoM} (h : PostAt K CR CP CQ H q m) (e : Ex H H') : PostAt K CR CP CQ H' q m := by
  obtain ⟨dx, p, dd, xs, h1, h2, h3, h4⟩ := h
  exact ⟨dx, p, dd, xs, e _ _ h1, h2.ex e, Evl.ex_t e h3, h4.keep fun _ _ z => e _ _ z⟩
theorem q_plan {p dd : Addr} {n : Nat} : (qf p dd n).lookup ("plan" : Str) = some (.ref p) := by kernel_rfl
theorem q_days {p dd : Addr} {n : Nat} : (qf p dd n).lookup ("days" : Str) = some (.int (n : Int)) := by kernel_rfl
theorem q_deeds {p dd : Addr} {n : Nat} : (qf p dd n).lookup ("deeds" : Str) = some (.ref dd) := by kernel_rfl
/-- all but one place stays -/
abbrev Kq (q : Addr) (H H' : Hp) : Prop := Kp q q H H'
theorem Kq.of {q : Addr} {H H' : Hp} (e : Ex H H') : Kq q H H' := Kp.same (ex_same e)
/-- an object that is no post -/
def NoPlan (o : HO) : Prop := ∀ C dx fs, o = .ins C dx fs → fs.lookup ("plan" : Str) = none
def Kn (H H' : Hp) : Prop := ∀ x o, H x = some o → NoPlan o → H' x = some o
theorem Kn.upd {H : Hp} {C a dx p dd : Addr} {n : Nat} {o : HO} (h : H a = some (.ins C dx (qf p dd n))) : Kn H (upd H a o) := fun x u e np => by
  rw [upd_ne (ne_of e h fun z => by
    have := np _ _ _ z
    rw [q_plan] at this
    cases this)]
  exact e
theorem Kn.t {K : PySem.W.Frag} {H H' : Hp} (k : Kn H H') {a : Addr} {xs : List V} (h : SqT K H a xs) : SqT K H' a xs := by
  rcases h with (h | ⟨u, h⟩) | h
  · exact .inl (.inl (k _ _ h fun _ _ _ z => nomatch z))
  · exact .inl (.inr ⟨u, k _ _ h fun _ _ _ z => nomatch z⟩)
  · exact .inr h
theorem rf_noplan {k : Str} {t d : Addr} : (rf k t d).lookup ("plan" : Str) = none := by
  unfold rf
  rw [lookup_putF, if_neg (by decide), lookup_putF, if_neg (by decide), lookup_putF, if_neg (by decide)]
  rfl
theorem Kn.rules {K : PySem.W.Frag} {CR : Addr} {H H' : Hp} (k : Kn H H') : ∀ {xs : List V} {rs : List RuleD}, RulesAt K CR H xs rs → RulesAt K CR H' xs rs
  | _, _, .nil => .nil
  | _, _, .cons ⟨p, h1, dx, t, d, h2, h3, h4⟩ tl => .cons ⟨p, h1, dx, t, d, k _ _ h2 (fun _ _ _ z => by
      cases z
      exact rf_noplan), k.t h3, k.t h4⟩ (Kn.rules k tl)
theorem Kn.plan {K : PySem.W.Frag} {CR CP p : Addr} {H H' : Hp} {ks : List Str} {rs : List RuleD} (k : Kn H H') (h : PlanIs K CR CP ks rs p H) : PlanIs K CR CP ks rs p H' := by
  obtain ⟨xs, ⟨dx, t, d, h3, h4, h5⟩, h6⟩ := h
  exact ⟨xs, ⟨dx, t, d, k _ _ h3 (fun _ _ _ z => by
    cases z
    exact pf_other ⟨by decide, by decide⟩), k.t h4, k.t h5⟩, k.rules h6⟩
theorem Kn.tups {H H' : Hp} (k : Kn H H') : ∀ t zs, H t = some (.tup zs) → H' t = some (.tup zs) := fun t zs h => k _ _ h fun _ _ _ z => nomatch z
/-- self.deeds = a tuple of deeds -/
theorem s_deeds {K : PySem.W.Frag} {CR CP CQ : Addr} {σ : L2.St} {H : Hp} {te to : TE} {D : Ends} {q : Addr} {m : PoM} {ds : List DD} (h : PostAt K CR CP CQ H q m) (cl : Cls K CQ) (nd : NoAttr K CQ "deeds")
    (hv : ∀ Q : VK, (∀ t ys H1, Ex H H1 → SqT K H1 t ys → DeedsAt H1 ys ds → Q (.ref t) H1) → te σ H Q) (ho : ∀ H1, Ex H H1 → Ev to σ H1 (.ref q)) (k : ∀ H1, Kq q H H1 → PostAt K CR CP CQ H1 q { m with ds := ds } → D.nx σ H1) : sFld K to te "deeds" D σ H := by
  refine hv _ fun t ys H1 e1 hs hd => ho H1 e1 H1 (Ex.refl _) _ fun H2 e2 => ?_
  obtain ⟨dx, p, dd, xs, h1, h2, h3, h4⟩ := h.ex (e1.trans e2)
  refine ⟨q, CQ, dx, qf p dd m.days, rfl, h1, cl, nd, by show 3 < 1000; decide, ?_⟩
  have kn : Kn H2 (upd H2 q (.ins CQ dx (putF "deeds" (.ref t) (qf p dd m.days)))) := Kn.upd h1
  refine k _ (fun x o x1 x2 hx => by rw [upd_ne x1]; exact (e1.trans e2) _ _ hx) ⟨dx, p, t, ys, upd_same.trans (by kernel_rfl), kn.plan h2, kn.t (Evl.ex_t e2 hs), (hd.keep fun _ _ z => e2 _ _ z).keep kn.tups⟩
theorem qs_deeds {K : PySem.W.Frag} {CR CP CQ : Addr} {σ : L2.St} {H : Hp} {te to : TE} {D : Ends} {tz : TS} {q : Addr} {m : PoM} {ds : List DD} (h : PostAt K CR CP CQ H q m) (cl : Cls K CQ) (nd : NoAttr K CQ "deeds")
    (hv : ∀ Q : VK, (∀ t ys H1, Ex H H1 → SqT K H1 t ys → DeedsAt H1 ys ds → Q (.ref t) H1) → te σ H Q) (ho : ∀ H1, Ex H H1 → Ev to σ H1 (.ref q)) (k : ∀ H1, Kq q H H1 → PostAt K CR CP CQ H1 q { m with ds := ds } → tz D σ H1) : tSeq (sFld K to te "deeds") tz D σ H := s_deeds (D := { D with nx := tz D }) h cl nd hv ho k
/-! ### checks -/
structure TxQ (K : PySem.W.Frag) (mg : Str → Option Value) (CQ : Addr) (tCm tHd tAn : Tok) : Prop where
  g_COME : mg "COME" = some (.str "come " tCm)
  g_HEARD : mg "HEARD" = some (.str "heard " tHd)
  g_ANSWERING : mg "ANSWERING" = some (.str "answer" tAn)
  cl : Cls K CQ
  plan : NoAttr K CQ "plan"
  days : NoAttr K CQ "days"
  deeds : NoAttr K CQ "deeds"
theorem et_chain {σ : L2.St} {H : Hp} {ta tb tc : TE} {r r' : R2} {x y z : V} {k l : Bool} (ha : Ev ta σ H x) (hb : Ev tb σ H y) (hc : Ev tc σ H z) (h1 : Evl.RV r x y H (.bl k)) (h2 : k = true → Evl.RV r' y z H (.bl l)) : EvT (tTest (tChain r r' ta tb tc)) σ H (k && l) := fun H0 e0 Q q =>
  ha H0 e0 _ fun H1 e1 => hb H1 (e0.trans e1) _ fun H2 e2 => h1 H2 ((e0.trans e1).trans e2) _ fun H3 e3 => ⟨k, rfl, by
    have e03 := ((e0.trans e1).trans e2).trans e3
    cases k with
    | false => exact iteF ⟨false, rfl, q H3 ((e1.trans e2).trans e3)⟩
    | true => exact iteT (hc H3 e03 _ fun H4 e4 => h2 rfl H4 (e03.trans e4) _ fun H5 e5 => ⟨l, rfl, by
        rw [Bool.true_and] at q
        exact q H5 ((((e1.trans e2).trans e3).trans e4).trans e5)⟩)⟩
theorem ev_fmtS {σ : L2.St} {H : Hp} {te : TE} {y : Str} (h : Ev te σ H (.str y)) (hz : y.length ≤ 100000) : Ev (tFmt te) σ H (.str y) := fun H1 e1 Q q => h H1 e1 _ fun H2 e2 => .inl ⟨y, rfl, size_of hz, q H2 e2⟩
theorem ev_fmtI {σ : L2.St} {H : Hp} {te : TE} {i : Int} (h : Ev te σ H (.int i)) (hz : i.natAbs.log2 < 1920) : Ev (tFmt te) σ H (.str (toString i)) := fun H1 e1 Q q => h H1 e1 _ fun H2 e2 => .inr ⟨i, rfl, hz, q H2 e2⟩
theorem ev_js2 {σ : L2.St} {H : Hp} {t1 t2 : TE} {y z : Str} (ha : Ev t1 σ H (.str y)) (hb : Ev t2 σ H (.str z)) (hl : y.length + z.length ≤ 100000) : Ev (fun σ H Q => tJs [t1, t2] Str.empty σ H fun out H1 => Q (.str out) H1) σ H (.str (y ++ z)) := fun H1 e1 Q q =>
  ha H1 e1 _ fun H2 e2 => ⟨y, rfl, by rw [Str.empty_append]; exact size_of (by omega), hb H2 (e1.trans e2) _ fun H3 e3 => ⟨z, rfl, by rw [Str.empty_append, Str.length_append]; exact size_of hl, by
    show Q (.str (Str.empty ++ y ++ z)) H3
    rw [Str.empty_append]
    exact q H3 (e2.trans e3)⟩⟩
def nameB (g : Str) : Bool := (decide (1 ≤ g.length) && decide (g.length ≤ 4)) && (Txt.isascii g && (Txt.isalpha g && Txt.islower g))
def spIsName : Sp := fun vs H Q _ => ∃ g : Str, vs = [.str g] ∧ g.length ≤ 1000 ∧ ∀ H', Ex H H' → Q (.bl (nameB g)) H'
def spCheckName : Sp := fun vs H Q _ => ∃ g z : Str, vs = [.str g, .str z] ∧ nameB g = true ∧ ∀ H', Ex H H' → Q .non H'
section
variable {P : Program} {w : World} {K : PySem.W.Frag} {mg : Str → Option Value} {base : Heap} {a_LETTERS a_LETTER_TESTS a_LETTER_DEEDS a_ANSWER_TESTS a_ANSWER_DEEDS CR CP CC CQ : Addr} {tA tN tO tCm tHd tAn : Tok}
theorem scIsName : FnScope ["value"] ["value"] (defScope sIsName) := ⟨rfl, rfl, rfl, by decide +kernel, rfl, by decide +kernel, by decide +kernel⟩
theorem scCheckName : FnScope ["value", "word"] ["value", "word"] (defScope sCheckName) := ⟨rfl, rfl, rfl, by decide +kernel, rfl, by decide +kernel, by decide +kernel⟩
theorem scPostDo : FnScope ["self", "guest", "day", "event"] ["self", "guest", "day", "event"] (defScope sPostDo) := ⟨rfl, rfl, rfl, by decide +kernel, rfl, by decide +kernel, by decide +kernel⟩
theorem ok_is_name {f : Addr} {fd : FuncData} (F : Fun K "is_name" "is_name" sIsName f fd) (T : TxR K mg a_LETTERS a_LETTER_TESTS a_LETTER_DEEDS a_ANSWER_TESTS a_ANSWER_DEEDS CR tA tN) : FnOk P w K mg base CX0 1 f fd ["value"] spIsName := by
  refine F.ok scIsName (fun vs H Q E h => ?_) (fun cdv A outer s H vs Q E hr h => ?_)
  · obtain ⟨g, rfl, _⟩ := h
    rfl
  · obtain ⟨g, rfl, hl, q⟩ := h
    refine ⟨_, pss_cons (ps_if (PW.pt (pw_or (pt_not (pt_val (pe_callB call_isi (by rfl) T.n_isinstance (by decide +kernel) (pa_cons (pv 0) (pa_cons (pe_bltn (v := .ty "str") (by rfl) T.n_str (by decide +kernel) rfl) pa_nil))))) (pw_or1 (pt_not (pt_chain op_le op_le pe_int (pe_callB call_len_str (by rfl) T.n_len (by decide +kernel) (pa_cons (pv 0) pa_nil)) pe_int))))) (pss_one (ps_ret pe_bl)) pss_nil)
      (pss_one (ps_ret (pe_and (pe_bm0 PySem.F.plainAttrs_str PySem.F.slot_str_isascii PySem.F.type_str_isascii mt_isascii (pv 0)) (pe_and (pe_bm0 PySem.F.plainAttrs_str PySem.F.slot_str_isalpha PySem.F.type_str_isalpha mt_isalpha (pv 0)) (pe_one (pe_bm0 PySem.F.plainAttrs_str PySem.F.slot_str_islower PySem.F.type_str_islower mt_islower (pv 0))))))), ?_⟩
    have lenE : ∀ {H1 : Hp}, Ev (tCB (fun xs H Q => ∃ a, xs = [V.str a] ∧ a.length ≤ sizeLine ∧ Q (V.int (a.length : Int)) H) (tCons (tVar 0) tNil)) (L2.start ["value"] [.str g]) H1 (.int (g.length : Int)) := fun {H1} => ev_lenS (z := g) (Evl.ev_var rfl) (by omega)
    refine Evl.q_when (b := !(decide (1 ≤ g.length) && decide (g.length ≤ 4))) (Evl.et_is (Evl.et_or (a := false) (Evl.et_not (a := true) (Evl.et_B (ev_isi (Evl.ea_cons (Evl.ev_var rfl) (Evl.ea_cons Evl.ev_c Evl.ea_nil)) (.ty _) (fun _ _ => .base (.str _)) (kit_ty (by decide +kernel))))) (fun _ => Evl.et_not (et_chain (Evl.ev_c (v := .int 1)) lenE (Evl.ev_c (v := .int 4)) Evl.rv_I0 (fun _ => Evl.rv_I0)))) ?_) (fun hb H1 e1 => ?_) (fun hb H1 e1 => ?_)
    · rw [Bool.false_or]
      congr 1
      rw [show decide ((1 : Int) ≤ (g.length : Int)) = decide (1 ≤ g.length) from decide_eq_decide.mpr ⟨fun h => by omega, fun h => by omega⟩, show decide ((g.length : Int) ≤ 4) = decide (g.length ≤ 4) from decide_eq_decide.mpr ⟨fun h => by omega, fun h => by omega⟩]
    · have e : nameB g = false := by
        unfold nameB
        rw [show (decide (1 ≤ g.length) && decide (g.length ≤ 4)) = false from (Bool.not_eq_true' _).mp hb]
        rfl
      refine Evl.s_ret (v := .bl false) Evl.ev_c fun H2 e2 => ?_
      have q2 := q H2 (e1.trans e2)
      rw [e] at q2
      exact q2
    · have e : nameB g = (Txt.isascii g && (Txt.isalpha g && Txt.islower g)) := by
        unfold nameB
        rw [show (decide (1 ≤ g.length) && decide (g.length ≤ 4)) = true from (Bool.not_eq_false' _).mp hb]
        rfl
      refine Evl.s_ret (v := .bl (nameB g)) (Evl.ev_is (Evl.ev_andV (a := Txt.isascii g) (b := Txt.isalpha g && Txt.islower g) (fun H3 e3 Q3 q3 => ⟨_, rfl, rfl, _, rfl, rfl, trivial, q3 H3 (Ex.refl _)⟩) (fun _ => Evl.ev_andV (a := Txt.isalpha g) (fun H3 e3 Q3 q3 => ⟨_, rfl, rfl, _, rfl, rfl, trivial, q3 H3 (Ex.refl _)⟩) (fun _ H3 e3 Q3 q3 => ⟨_, rfl, rfl, _, rfl, rfl, trivial, q3 H3 (Ex.refl _)⟩))) (by rw [e])) fun H2 e2 => q H2 (e1.trans e2)
theorem ok_check_name {f fN : Addr} {fd fdN : FuncData} (F : Fun K "check_name" "check_name" sCheckName f fd) (T : TxR K mg a_LETTERS a_LETTER_TESTS a_LETTER_DEEDS a_ANSWER_TESTS a_ANSWER_DEEDS CR tA tN) (D_is_name : Df K mg "is_name" sIsName ["value"] fN fdN) : FnOk P w K mg base CX0 2 f fd ["value", "word"] spCheckName := by
  have G_is_name : FnOk P w K mg base CX0 1 fN fdN ["value"] spIsName := ok_is_name D_is_name.F T
  refine F.ok scCheckName (fun vs H Q E h => ?_) (fun cdv A outer s H vs Q E hr h => ?_)
  · obtain ⟨g, z, rfl, _⟩ := h
    rfl
  · obtain ⟨g, z, rfl, hn, q⟩ := h
    have hl : g.length ≤ 1000 := by
      unfold nameB at hn
      simp only [Bool.and_eq_true, decide_eq_true_eq] at hn
      omega
    refine ⟨_, pss_one (ps_if (pt_not (pt_val (pe_call G_is_name (hr.mono (by decide)) rfl D_is_name.g D_is_name.F.kp D_is_name.b .nil pass0 (pa_cons (pv 0) pa_nil)))) (pss_one ps_never) pss_nil), ?_⟩
    exact Evl.s_when (b := false) (Evl.et_is (Evl.et_not (a := true) (Evl.et_B (ev_call (v := .bl true) (Evl.ea_cons (Evl.ev_var rfl) Evl.ea_nil) fun H1 e1 Q1 q1 => ⟨g, rfl, hl, fun H2 e2 => by
      rw [hn]
      exact q1 H2 e2⟩))) rfl) (fun z => nomatch z) (fun _ H1 e1 => q H1 e1)
def spDo (K : PySem.W.Frag) (CR CP CQ : Addr) : Sp := fun vs H Q _ => ∃ (q : Addr) (m : PoM) (x : DD), vs = [.ref q, gv x.g, ov x.d, .str x.e] ∧ PostAt K CR CP CQ H q m ∧ m.ds.length ≤ 5000 ∧ ∀ H', Kq q H H' → PostAt K CR CP CQ H' q (m.do x) → Q .non H'
theorem ok_do {f : Addr} {fd : FuncData} (F : Fun K "do" "Post.do" sPostDo f fd) (TQ : TxQ K mg CQ tCm tHd tAn) : FnOk P w K mg base CX0 1 f fd ["self", "guest", "day", "event"] (spDo K CR CP CQ) := by
  refine F.ok scPostDo (fun vs H Q E h => ?_) (fun cdv A outer s H vs Q E hr h => ?_)
  · obtain ⟨q, m, x, rfl, _⟩ := h
    rfl
  · obtain ⟨a, m, x, rfl, ⟨dx, p, dd, xs, h1, h2, h3, h4⟩, hl, q⟩ := h
    refine ⟨_, pss_one (ps_fld (pv 0) (pe_tup (StX.pa_star (pe_fld (pv 0) rfl) (pa_cons (pe_tup (pa_cons (pv 1) (pa_cons (pv 2) (pa_cons (pv 3) pa_nil)))) pa_nil))) rfl), ?_⟩
    refine s_deeds (ds := m.ds ++ [x]) ⟨dx, p, dd, xs, h1, h2, h3, h4⟩ TQ.cl TQ.deeds (fun Q' k' => ?_) (fun H1 e1 => Evl.ev_var rfl) fun H1 k1 p1 => q H1 k1 p1
    have lx := paired_len h4
    refine ⟨_, rfl, a, CQ, dx, _, _, rfl, h1, TQ.cl, TQ.deeds, q_deeds, dd, xs, rfl, .inl h3, _, rfl, _, rfl, _, rfl, size_of (by show 3 ≤ 100000; decide), fun t nt => ⟨size_of (by rw [List.length_append]; show xs.length + 1 ≤ 100000; omega), fun u nu => ?_⟩⟩
    have e1 : Ex H (upd H t (.tup [gv x.g, ov x.d, .str x.e])) := Ex.new nt
    have e2 := e1.trans (Ex.new (o := .tup (xs ++ [V.ref t])) nu)
    exact k' u (xs ++ [.ref t]) _ e2 (Evl.st_of upd_same) ((h4.keep fun _ _ z => e2 _ _ z).snoc ((Ex.new nu) _ _ upd_same))
/-! ### sent, given -/
def spSent (K : PySem.W.Frag) (CR CP CQ : Addr) : Sp := fun vs H Q _ => ∃ (q : Addr) (m : PoM), vs = [.ref q] ∧ PostAt K CR CP CQ H q m ∧ m.ds.length ≤ 5000 ∧ ∀ t xs H', Ex H H' → SqT K H' t xs → SentAt H' xs m.sent → Q (.ref t) H'
def spGiven (K : PySem.W.Frag) (CR CP CQ : Addr) : Sp := fun vs H Q _ => ∃ (q : Addr) (m : PoM), vs = [.ref q] ∧ PostAt K CR CP CQ H q m ∧ m.ds.length ≤ 5000 ∧ ∀ L xs H', Ex H H' → H L = none → H' L = some (.lst xs) → GivenAt H' xs m.given → Q (.ref L) H'
theorem scPostSent : FnScope ["self", "letters", "guest", "day", "event", "number"] ["self"] (defScope sPostSent) := ⟨rfl, rfl, rfl, by decide +kernel, rfl, by decide +kernel, by decide +kernel⟩
theorem scPostGiven : FnScope ["self", "guest", "day", "event"] ["self"] (defScope sPostGiven) := ⟨rfl, rfl, rfl, by decide +kernel, rfl, by decide +kernel, by decide +kernel⟩
theorem sent_take (ks : List Str) (ds : List DD) (i : Nat) (x : DD) (h : ds[i]? = some x) : sentOf ks (ds.take (i + 1)) = sent1 ks (sentOf ks (ds.take i)) x := by
  unfold sentOf
  rw [List.take_add_one, h, List.foldl_append]
  rfl
theorem sent_len (ks : List Str) : ∀ (ds : List DD) (l : List L3), (ds.foldl (sent1 ks) l).length ≤ l.length + ds.length ∧ l.length ≤ (ds.foldl (sent1 ks) l).length
  | [], l => ⟨Nat.le_refl _, Nat.le_refl _⟩
  | x :: r, l => by
    have a := sent_len ks r (sent1 ks l x)
    have b : (sent1 ks l x).length ≤ l.length + 1 ∧ l.length ≤ (sent1 ks l x).length := by
      unfold sent1
      split
      · rw [List.length_append]
        exact ⟨Nat.le_refl _, Nat.le_add_right _ _⟩
      · exact ⟨Nat.le_succ _, Nat.le_refl _⟩
    show (r.foldl (sent1 ks) (sent1 ks l x)).length ≤ l.length + (r.length + 1) ∧ l.length ≤ (r.foldl (sent1 ks) (sent1 ks l x)).length
    omega
theorem gv_non (g : Option Str) : decide (gv g = .non) = decide (g = none) := by cases g <;> rfl
theorem ok_sent {f : Addr} {fd : FuncData} (F : Fun K "sent" "Post.sent" sPostSent f fd) (T : TxR K mg a_LETTERS a_LETTER_TESTS a_LETTER_DEEDS a_ANSWER_TESTS a_ANSWER_DEEDS CR tA tN) (TP : TxP K mg CP) (TQ : TxQ K mg CQ tCm tHd tAn) : FnOk P w K mg base CX0 1 f fd ["self"] (spSent K CR CP CQ) := by
  refine F.ok scPostSent (fun vs H Q E h => ?_) (fun cdv A outer s H vs Q E hr h => ?_)
  · obtain ⟨q, m, rfl, _⟩ := h
    rfl
  · obtain ⟨a, m, rfl, pa, hl, q⟩ := h
    obtain ⟨dx, p, dd, xs, h1, ⟨us, ⟨dp, ra, rb, p1, p2, p3⟩, hR⟩, h3, h4⟩ := id pa
    refine ⟨_, pss_cons (ps_set (i := 1) scPostSent.nd rfl (.inl rfl) (pe_lst (pa_cons (pe_tup (pa_cons pe_str (pa_cons pe_non (pa_cons pe_int pa_nil)))) pa_nil)))
      (pss_cut (ps_for PassesOwn.never rfl (pi_tup (pe_fld (pv 0) rfl)) (pg_tup (by rfl) (pgs_cons (pg_name (i := 2) scPostSent.nd rfl (Or.inl rfl)) (pgs_cons (pg_name (i := 3) scPostSent.nd rfl (Or.inl rfl)) (pgs_cons (pg_name (i := 4) scPostSent.nd rfl (Or.inl rfl)) pgs_nil)))) (pss_one (ps_if (pt_cmpR op_isN (pv 2) pe_non (nomark _)) (pss_cons (ps_set (i := 5) scPostSent.nd rfl (.inl rfl) (pe_op op_add (pe_ix ix_tup (pe_ix ix_list (pv 1) (pe_un un_neg pe_int) (fun _ _ => rfl)) pe_int (fun _ _ => rfl)) (pe_ifExp (pt_cmpR op_in_seq (pv 4) (pe_fld (pe_fld (pv 0) rfl) rfl) (by rfl)) pe_int pe_int)))
      (pss_one (ps_expr (pe_bm PySem.F.plainAttrs_list PySem.F.slot_list_append PySem.F.type_list_append mt_append (pv 1) (pa_cons (pe_tup (pa_cons (pv 4) (pa_cons (pv 3) (pa_cons (pv 5) pa_nil)))) pa_nil))))) pss_nil)))
      (pss_one (ps_ret (pe_callTy call_tuple_any (by rfl) TP.n_tuple (by decide +kernel) (pa_cons (pv 1) pa_nil))))), ?_⟩
    have lx := paired_len h4
    refine ⟨size_of (by show 3 ≤ 100000; decide), fun t0 nt0 => ⟨size_of (by show 1 ≤ 100000; decide), fun L nL => ?_⟩⟩
    have nLH : H L = none := Evl.fresh_back (Ex.new nt0) nL
    have e01 : Ex H (upd (upd H t0 (.tup [.str "ask", .non, .int 0])) L (.lst [.ref t0])) := (Ex.new nt0).trans (Ex.new nL)
    have hL1 : upd (upd H t0 (.tup [.str "ask", .non, .int 0])) L (.lst [.ref t0]) L = some (.lst [.ref t0]) := upd_same
    have s1 : SentAt (upd (upd H t0 (.tup [.str "ask", .non, .int 0])) L (.lst [.ref t0])) [.ref t0] [("ask", none, 0)] := .cons ⟨t0, rfl, (Ex.new nL) _ _ upd_same⟩ .nil
    generalize upd (upd H t0 (.tup [.str "ask", .non, .int 0])) L (.lst [.ref t0]) = H1 at e01 hL1 s1
    refine Evl.q_cut (M := fun σ' H' => ∃ (b2 b3 b4 b5 : Option V) (ys : List V), σ' = [some (.ref a), some (.ref L), b2, b3, b4, b5] ∧ Ex H H' ∧ H' L = some (.lst ys) ∧ SentAt H' ys m.sent) ?_ (fun σ' H' hh => ?_)
    · refine Evl.s_forT (a := dd) (xs := xs) (ev_fld (Evl.ev_var rfl) (e01 _ _ h1) TQ.cl TQ.deeds q_deeds) (Evl.ex_t e01 h3) (fun i σ' H' => ∃ (b2 b3 b4 b5 : Option V) (ys : List V), σ' = [some (.ref a), some (.ref L), b2, b3, b4, b5] ∧ Ex H H' ∧ H' L = some (.lst ys) ∧ SentAt H' ys (sentOf m.ks (m.ds.take i)))
        (fun H2 e2 => ⟨_, _, _, _, _, rfl, e01.trans e2, e2 _ _ hL1, s1.keep fun _ _ z => e2 _ _ z⟩) (fun i σ' H' _ ⟨_, _, _, _, _, _, e, _⟩ => Evl.ex_t e h3) ?_ (fun σ' H' ⟨b2, b3, b4, b5, ys, h, e, z, w⟩ => ⟨b2, b3, b4, b5, ys, h, e, z, by
          rw [lx, List.take_length] at w
          exact w⟩)
      rintro i x σ' H' hx ⟨b2, b3, b4, b5, ys, rfl, eH, hL', hS⟩
      obtain ⟨t, d, rfl, hd, ht⟩ := tups_at (f := fun d : DD => [gv d.g, ov d.d, .str d.e]) h4 hx
      refine ⟨t, _, rfl, Evl.st_of (eH _ _ ht), rfl, _, _, rfl, _, _, rfl, _, _, rfl, rfl, ?_⟩
      have st := sent_take m.ks m.ds i d hd
      have sl := sent_len m.ks (m.ds.take i) [("ask", none, 0)]
      have ly := paired_len hS
      have ti : (m.ds.take i).length ≤ m.ds.length := by rw [List.length_take]; omega
      refine Evl.s_when (b := decide (d.g = none)) (Evl.et_is (Evl.et_test (Evl.ev_op (Evl.ev_var rfl) Evl.ev_c rv_isN)) (gv_non _)) (fun hb H2 e2 => ?_) (fun hb H2 e2 => ?_)
      · have e02 := eH.trans e2
        have hS2 := hS.keep fun _ _ z => e2 _ _ z
        have l1 : (sentOf m.ks (m.ds.take i)).length ≤ m.ds.length + 1 ∧ 1 ≤ (sentOf m.ks (m.ds.take i)).length := by
          have a1 := sl.1
          have a2 := sl.2
          simp only [List.length_cons, List.length_nil] at a1 a2
          unfold sentOf
          omega
        obtain ⟨z, hz⟩ : ∃ z, ys[ys.length - 1]? = some z := ⟨_, List.getElem?_eq_getElem (by omega)⟩
        obtain ⟨tl, l, rfl, hl2, htl⟩ := tups_at (f := fun l : L3 => [.str l.1, ov l.2.1, .int l.2.2]) hS2 hz
        have ln : lastN (sentOf m.ks (m.ds.take i)) = l.2.2 := by
          unfold lastN
          rw [List.getLast?_eq_getElem?, ← ly, hl2]
          rfl
        refine Evl.q_asg (v := .int (lastN (sentOf m.ks (m.ds.take i)) + if d.e ∈ m.ks then 1 else 0)) (Evl.ev_op (ev_ixT (j := 2) (Evl.ev_op (Evl.ev_var rfl) (Evl.ev_un Evl.ev_c Evl.ru_neg) (Evl.rv_ixL (Evl.sq_of (e2 _ _ hL')) (atI_neg1 hz (by omega)))) Evl.ev_c (Evl.st_of htl) (by rw [ln]; rfl)) (Evl.ev_if (b := decide (d.e ∈ m.ks)) (v := .int (if d.e ∈ m.ks then 1 else 0)) (Evl.et_test (Evl.ev_is (Evl.ev_op (Evl.ev_var rfl) (ev_fld (ev_fld (Evl.ev_var rfl) (e02 _ _ h1) TQ.cl TQ.plan q_plan) (e02 _ _ p1) TP.cl TP.nR (pf_raises _ _)) (Evl.rv_isT (Evl.ex_t e02 p2) rfl (flat_strs _))) (by rw [inV_strs]))) (fun e => ?_) (fun e => ?_)) Evl.rv_I0) fun H3 e3 => ?_
        · rw [if_pos (of_decide_eq_true e)]
          exact Evl.ev_c
        · rw [if_neg (of_decide_eq_false e)]
          exact Evl.ev_c
        refine Evl.s_appU ((e2.trans e3) _ _ hL') (Evl.ev_var rfl) (Evl.eu_tup (Evl.ea_cons (Evl.ev_var rfl) (Evl.ea_cons (Evl.ev_var rfl) (Evl.ea_cons (Evl.ev_var rfl) Evl.ea_nil))) (by show 3 ≤ 100000; decide)) (by omega) fun p H4 np e4 hp => ?_
        refine ⟨_, _, _, _, _, rfl, ((e02.trans e3).trans e4).mut nLH, upd_same, ?_⟩
        rw [st]
        unfold sent1
        rw [if_pos (of_decide_eq_true hb)]
        exact ((hS2.keep fun _ _ z => (e3.trans e4) _ _ z).snoc (l := (d.e, d.d, _)) hp).keep (keep_upd (e4 _ _ ((e2.trans e3) _ _ hL')) fun _ z => nomatch z)
      · refine ⟨_, _, _, _, _, rfl, eH.trans e2, e2 _ _ hL', ?_⟩
        rw [st]
        unfold sent1
        rw [if_neg (of_decide_eq_false hb)]
        exact hS.keep fun _ _ z => e2 _ _ z
    · obtain ⟨b2, b3, b4, b5, ys, rfl, e1, hL, hS⟩ := hh
      exact ⟨_, rfl, L, _, rfl, .inl (Evl.sq_of hL), fun t H2 e2 st => q t ys H2 (e1.trans e2) st (hS.keep fun _ _ z => e2 _ _ z)⟩
theorem given_take (ds : List DD) (i : Nat) (x : DD) (h : ds[i]? = some x) : (ds.take (i + 1)).filter (fun x => decide (x.e = ("answer" : Str))) = (ds.take i).filter (fun x => decide (x.e = ("answer" : Str))) ++ if x.e = ("answer" : Str) then [x] else [] := by
  rw [List.take_add_one, h, List.filter_append]
  congr 1
  show List.filter _ [x] = _
  by_cases e : x.e = ("answer" : Str)
  · rw [List.filter_cons_of_pos (by simpa using e), if_pos e]
    rfl
  · rw [List.filter_cons_of_neg (by simpa using e), if_neg e]
    rfl
theorem ok_given {f : Addr} {fd : FuncData} (F : Fun K "given" "Post.given" sPostGiven f fd) (TQ : TxQ K mg CQ tCm tHd tAn) : FnOk P w K mg base CX0 1 f fd ["self"] (spGiven K CR CP CQ) := by
  refine F.ok scPostGiven (fun vs H Q E h => ?_) (fun cdv A outer s H vs Q E hr h => ?_)
  · obtain ⟨q, m, rfl, _⟩ := h
    rfl
  · obtain ⟨a, m, rfl, pa, hl, q⟩ := h
    obtain ⟨dx, p, dd, xs, h1, h2, h3, h4⟩ := id pa
    refine ⟨_, pss_one (ps_ret (pe_lc (own := [("guest", 1), ("day", 2), ("event", 3)]) rfl scPostGiven.nd (pi_tup (pe_fld (pv 0) rfl)) (blkOk_by (own := [("guest", 1), ("day", 2), ("event", 3)]) (N := ["self", "guest", "day", "event"]) (sc := defScope sPostGiven) (by decide +kernel)) (g := gTup K 3 (gCons (gName 1) (gCons (gName 2) (gCons (gName 3) gNil)))) (fun _ _ _ _ _ => (pg_tup (by rfl) (pgs_cons (pg_name (i := 1) scPostGiven.nd rfl (Or.inl rfl)) (pgs_cons (pg_name (i := 2) scPostGiven.nd rfl (Or.inl rfl)) (pgs_cons (pg_name (i := 3) scPostGiven.nd rfl (Or.inl rfl)) pgs_nil))))) (fun _ _ _ _ _ => (pts_one (pt_cmpR (r := rEq) op_eq (pv 3) (pe_glob (v := .str "answer") rfl TQ.g_ANSWERING ⟨_, rfl⟩) (nomark _)))) (fun _ _ _ _ _ => (pe_tup (pa_cons (pv 1) (pa_cons (pv 2) pa_nil)))))), ?_⟩
    have lx := paired_len h4
    refine ⟨_, rfl, a, CQ, dx, _, _, rfl, h1, TQ.cl, TQ.deeds, q_deeds, dd, rfl, ⟨xs, h3⟩, fun D nD => ?_⟩
    refine lc_tup (xs := xs) (fun i H' => Ex H H' ∧ ∃ ys, H' D = some (.lst ys) ∧ GivenAt H' ys (((m.ds.take i).filter fun x => decide (x.e = ("answer" : Str))).map fun x => (x.g, x.d))) ⟨Ex.new nD, [], upd_same, .nil⟩ (fun i H' _ ⟨e, _⟩ => Evl.ex_t e h3) ?_ (fun H' ⟨e, ys, hy, hg⟩ => q D ys H' e nD hy (by
      rw [lx, List.take_length] at hg
      exact hg))
    rintro i x H' hx ⟨eH, ys, hy, hg⟩
    obtain ⟨t, d, rfl, hd, ht⟩ := tups_at (f := fun d : DD => [gv d.g, ov d.d, .str d.e]) h4 hx
    have gt := given_take m.ds i d hd
    have ly := paired_len hg
    have lf : ((m.ds.take i).filter fun x => decide (x.e = ("answer" : Str))).length ≤ m.ds.length := Nat.le_trans (List.length_filter_le _ _) (by rw [List.length_take]; omega)
    rw [List.length_map] at ly
    refine ⟨t, _, rfl, Evl.st_of (eH _ _ ht), rfl, _, _, rfl, _, _, rfl, _, _, rfl, rfl, rfl, ?_⟩
    refine (Evl.et_is (Evl.et_test (Evl.ev_op (Evl.ev_var rfl) Evl.ev_c (Evl.rv_eq rfl))) (eq_str d.e "answer")) H' (Ex.refl _) _ fun H2 e2 => ?_
    refine ite2 (fun hb => ?_) (fun hb => ?_)
    · refine ⟨_, rfl, _, rfl, size_of (by show 2 ≤ 100000; decide), fun u nu => ⟨ys, (e2.trans (Ex.new nu)) _ _ hy, Nat.lt_of_le_of_lt (by omega : ys.length ≤ 5000) (by decide), ?_⟩⟩
      have e3 := (eH.trans e2).trans (Ex.new (o := .tup [gv d.g, ov d.d]) nu)
      refine ⟨e3.mut nD, _, upd_same, ?_⟩
      rw [gt, if_pos (of_decide_eq_true hb), List.map_append]
      exact ((hg.keep fun _ _ z => (e2.trans (Ex.new nu)) _ _ z).snoc (l := (d.g, d.d)) upd_same).keep (keep_upd ((e2.trans (Ex.new nu)) _ _ hy) fun _ z => nomatch z)
    · refine ⟨eH.trans e2, ys, e2 _ _ hy, ?_⟩
      rw [gt, if_neg (fun z => hb (decide_eq_true z)), List.append_nil]
      exact hg.keep fun _ _ z => e2 _ _ z
/-! ### weaving_for -/
def spWeave (K : PySem.W.Frag) (CR CP CQ : Addr) : Sp := fun vs H Q _ => ∃ (q : Addr) (m : PoM) (g : Str) (d : Nat), vs = [.ref q, .str g, .int (d : Int)] ∧ PostAt K CR CP CQ H q m ∧ nameB g = true ∧ d < m.days ∧ m.ds.length ≤ 5000 ∧ (∀ x ∈ m.ds, x.e.length ≤ 1000) ∧ ∀ t H', Ex H H' → SqT K H' t ((m.weave g d).map V.str) → Q (.ref t) H'
theorem scPostWeavingFor : FnScope ["self", "guest", "day", "events", "other", "about", "event", "fits"] ["self", "guest", "day"] (defScope sPostWeavingFor) := ⟨rfl, rfl, rfl, by decide +kernel, rfl, by decide +kernel, by decide +kernel⟩
theorem weave_take (g : Str) (d : Nat) (ds : List DD) (i : Nat) (x : DD) (h : ds[i]? = some x) : (ds.take (i + 1)).foldl (weave1 g d) [] = weave1 g d ((ds.take i).foldl (weave1 g d) []) x := by
  rw [List.take_add_one, h, List.foldl_append]
  rfl
theorem weave_len (g : Str) (d : Nat) : ∀ (ds : List DD) (l : List Str), (ds.foldl (weave1 g d) l).length ≤ l.length + ds.length
  | [], l => Nat.le_refl _
  | x :: r, l => by
    have a := weave_len g d r (weave1 g d l x)
    have b : (weave1 g d l x).length ≤ l.length + 1 := by
      unfold weave1
      split
      · rw [List.length_append]
        exact Nat.le_refl _
      · split
        · rw [List.length_append]
          exact Nat.le_refl _
        · exact Nat.le_succ _
    show (r.foldl (weave1 g d) (weave1 g d l x)).length ≤ l.length + (r.length + 1)
    omega
theorem ok_weave {f fN fI fPl fCN : Addr} {fd fdN fdI fdPl fdCN : FuncData} (F : Fun K "weaving_for" "Post.weaving_for" sPostWeavingFor f fd) (T : TxR K mg a_LETTERS a_LETTER_TESTS a_LETTER_DEEDS a_ANSWER_TESTS a_ANSWER_DEEDS CR tA tN) (TP : TxP K mg CP) (TQ : TxQ K mg CQ tCm tHd tAn)
    (D_is_name : Df K mg "is_name" sIsName ["value"] fN fdN) (D_check_name : Df K mg "check_name" sCheckName ["value", "word"] fCN fdCN) (D_is_integer : Df K mg "is_integer" sIsInteger ["value"] fI fdI) (D_is_place : Df K mg "is_place" sIsPlace ["value", "many"] fPl fdPl) : FnOk P w K mg base CX0 3 f fd ["self", "guest", "day"] (spWeave K CR CP CQ) := by
  have G_check_name : FnOk P w K mg base CX0 2 fCN fdCN ["value", "word"] spCheckName := ok_check_name D_check_name.F T D_is_name
  have G_is_place : FnOk P w K mg base CX0 2 fPl fdPl ["value", "many"] spIsPlace := ok_is_place D_is_place.F TP D_is_integer
  refine F.ok scPostWeavingFor (fun vs H Q E h => ?_) (fun cdv A outer s H vs Q E hr h => ?_)
  · obtain ⟨q, m, g, d, rfl, _⟩ := h
    rfl
  · obtain ⟨a, m, g, d, rfl, pa, hn, hd, hl, he, q⟩ := h
    obtain ⟨dx, p, dd, xs, h1, h2, h3, h4⟩ := id pa
    refine ⟨_, pss_cons (ps_expr (pe_call G_check_name (hr.mono (by decide)) rfl D_check_name.g D_check_name.F.kp D_check_name.b .nil pass0 (pa_cons (pv 1) (pa_cons pe_str pa_nil))))
      (pss_cons (ps_if (pt_not (pt_val (pe_call G_is_place (hr.mono (by decide)) rfl D_is_place.g D_is_place.F.kp D_is_place.b .nil pass0 (pa_cons (pv 2) (pa_cons (pe_fld (pv 0) rfl) pa_nil))))) (pss_one ps_never) pss_nil)
      (pss_cons (ps_set (i := 3) scPostWeavingFor.nd rfl (.inl rfl) (pe_lst pa_nil))
      (pss_cut (ps_for PassesOwn.never rfl (pi_tup (pe_fld (pv 0) rfl)) (pg_tup (by rfl) (pgs_cons (pg_name (i := 4) scPostWeavingFor.nd rfl (Or.inl rfl)) (pgs_cons (pg_name (i := 5) scPostWeavingFor.nd rfl (Or.inl rfl)) (pgs_cons (pg_name (i := 6) scPostWeavingFor.nd rfl (Or.inl rfl)) pgs_nil)))) (pss_cons (ps_set (i := 7) scPostWeavingFor.nd rfl (.inl rfl) (pe_or (pe_cmpR op_isN (pv 5) pe_non (nomark _)) (pe_one (pe_cmpR op_eq (pv 5) (pv 2) (nomark _)))))
      (pss_one (ps_if (pt_cmpR op_isN (pv 4) pe_non (nomark _)) (pss_one (ps_expr (pe_bm PySem.F.plainAttrs_list PySem.F.slot_list_append PySem.F.type_list_append mt_append (pv 3) (pa_cons (pe_ifExp (pt_val (pv 7)) (pv 6) (pe_joined (.cons pe_str (.cons (pe_fmt (pv 6)) .nil)))) pa_nil)))) (pss_one (ps_if (PW.pt (pw_and (pt_cmpR op_eq (pv 4) (pv 1) (nomark _)) (pw_and1 (pt_val (pv 7))))) (pss_one (ps_expr (pe_bm PySem.F.plainAttrs_list PySem.F.slot_list_append PySem.F.type_list_append mt_append (pv 3) (pa_cons (pv 6) pa_nil)))) pss_nil))))))
      (pss_one (ps_ret (pe_callTy call_tuple_any (by rfl) TP.n_tuple (by decide +kernel) (pa_cons (pv 3) pa_nil))))))), ?_⟩
    have lx := paired_len h4
    refine Evl.q_drop (v := .non) (ev_call (Evl.ea_cons (Evl.ev_var rfl) (Evl.ea_cons Evl.ev_c Evl.ea_nil)) fun H1 e1 Q1 q1 => ⟨g, "guest", rfl, hn, fun H2 e2 => q1 H2 e2⟩) fun H1 e1 => ?_
    refine Evl.q_when (b := false) (Evl.et_is (Evl.et_not (a := true) (Evl.et_B (ev_call (v := .bl true) (Evl.ea_cons (Evl.ev_var rfl) (Evl.ea_cons (ev_fld (Evl.ev_var rfl) (e1 _ _ h1) TQ.cl TQ.days q_days) Evl.ea_nil)) fun H2 e2 Q1 q1 => ⟨(d : Int), (m.days : Int), rfl, by
      rw [decide_eq_true (show (0 : Int) ≤ (d : Int) by omega), decide_eq_true (show (d : Int) < (m.days : Int) by omega)]
      exact q1 H2 (Ex.refl _)⟩))) rfl) (fun z => nomatch z) (fun _ H2 e2 => ?_)
    refine Evl.q_asgL (xs := []) (Evl.el_lst Evl.ea_nil (Nat.zero_le _)) fun L H3 nL e3 hL => ?_
    have e03 : Ex H H3 := (e1.trans e2).trans e3
    have nLH : H L = none := Evl.fresh_back (e1.trans e2) nL
    refine Evl.q_cut (M := fun σ' H' => ∃ b4 b5 b6 b7 : Option V, σ' = [some (.ref a), some (.str g), some (.int (d : Int)), some (.ref L), b4, b5, b6, b7] ∧ Ex H H' ∧ H' L = some (.lst ((m.weave g d).map V.str))) ?_ (fun σ' H' hh => ?_)
    · refine Evl.s_forT (a := dd) (xs := xs) (ev_fld (Evl.ev_var rfl) (e03 _ _ h1) TQ.cl TQ.deeds q_deeds) (Evl.ex_t e03 h3) (fun i σ' H' => ∃ b4 b5 b6 b7 : Option V, σ' = [some (.ref a), some (.str g), some (.int (d : Int)), some (.ref L), b4, b5, b6, b7] ∧ Ex H H' ∧ H' L = some (.lst (((m.ds.take i).foldl (weave1 g d) []).map V.str)))
        (fun H4 e4 => ⟨_, _, _, _, rfl, e03.trans e4, e4 _ _ hL⟩) (fun i σ' H' _ ⟨_, _, _, _, _, e, _⟩ => Evl.ex_t e h3) ?_ (fun σ' H' ⟨b4, b5, b6, b7, h, e, z⟩ => ⟨b4, b5, b6, b7, h, e, by
          rw [lx, List.take_length] at z
          exact z⟩)
      rintro i x σ' H' hx ⟨b4, b5, b6, b7, rfl, eH, hL'⟩
      obtain ⟨t, y, rfl, hy, ht⟩ := tups_at (f := fun d : DD => [gv d.g, ov d.d, .str d.e]) h4 hx
      refine ⟨t, _, rfl, Evl.st_of (eH _ _ ht), rfl, _, _, rfl, _, _, rfl, _, _, rfl, rfl, ?_⟩
      have wt := weave_take g d m.ds i y hy
      have wl := weave_len g d (m.ds.take i) []
      have ti : (m.ds.take i).length ≤ m.ds.length := by rw [List.length_take]; omega
      have ey := he y (List.mem_of_getElem? hy)
      have wz : (((m.ds.take i).foldl (weave1 g d) []).map V.str).length < 100000 := by
        rw [List.length_map]
        simp only [List.length_nil] at wl
        omega
      refine Evl.q_asg (v := .bl (fits y d)) (Evl.ev_orV (a := decide (y.d = none)) (b := decide (y.d = some d)) (Evl.ev_is (Evl.ev_op (Evl.ev_var rfl) Evl.ev_c rv_isN) (by rw [ov_non])) (fun h => ?_)) fun H4 e4 => ?_
      · obtain ⟨j, hj⟩ := Option.ne_none_iff_exists'.mp (of_decide_eq_false h)
        refine Evl.ev_is (Evl.ev_op (x := ov y.d) (Evl.ev_var rfl) (Evl.ev_var rfl) (Evl.rv_eq (by rw [hj]; rfl))) ?_
        rw [hj]
        show V.bl (decide (V.int (j : Int) = V.int (d : Int))) = _
        congr 1
        exact decide_eq_decide.mpr ⟨fun z => by
          cases z
          rfl, fun z => by
          cases z
          rfl⟩
      refine Evl.s_if (b := decide (y.g = none)) (Evl.et_is (Evl.et_test (Evl.ev_op (Evl.ev_var rfl) Evl.ev_c rv_isN)) (gv_non _)) (fun hb H5 e5 => ?_) (fun hb H5 e5 => ?_)
      · refine Evl.s_app ((e4.trans e5) _ _ hL') (Evl.ev_var rfl) (v := .str (if fits y d = true then y.e else ("other " : Str) ++ y.e)) (Evl.ev_if (b := fits y d) (Evl.et_B (Evl.ev_var rfl)) (fun h => ?_) (fun h => ?_)) wz fun H6 e6 => ?_
        · rw [if_pos h]
          exact Evl.ev_var rfl
        · rw [if_neg (by rw [h]; exact Bool.false_ne_true)]
          exact ev_js2 Evl.ev_c (ev_fmtS (Evl.ev_var rfl) (by omega)) (by have : ("other " : Str).length = 6 := by decide +kernel
                                                                          omega)
        · refine ⟨_, _, _, _, rfl, (((eH.trans e4).trans e5).trans e6).mut nLH, ?_⟩
          rw [upd_same, wt]
          unfold weave1
          rw [if_pos (of_decide_eq_true hb), List.map_append]
          rfl
      · refine Evl.s_when (b := decide (y.g = some g) && fits y d) (Evl.et_and ?_ (fun _ => Evl.et_B (Evl.ev_var rfl))) (fun hc H6 e6 => ?_) (fun hc H6 e6 => ?_)
        · obtain ⟨z, hz⟩ := Option.ne_none_iff_exists'.mp (of_decide_eq_false hb)
          refine Evl.et_is (Evl.et_test (Evl.ev_op (x := gv y.g) (Evl.ev_var rfl) (Evl.ev_var rfl) (Evl.rv_eq (by rw [hz]; rfl)))) ?_
          rw [hz]
          show decide (V.str z = V.str g) = _
          exact decide_eq_decide.mpr ⟨fun z => by
            cases z
            rfl, fun z => by
            cases z
            rfl⟩
        · refine Evl.s_app (((e4.trans e5).trans e6) _ _ hL') (Evl.ev_var rfl) (Evl.ev_var rfl) wz fun H7 e7 => ?_
          refine ⟨_, _, _, _, rfl, ((((eH.trans e4).trans e5).trans e6).trans e7).mut nLH, ?_⟩
          rw [upd_same, wt]
          unfold weave1
          rw [if_neg (of_decide_eq_false hb), if_pos hc, List.map_append]
          rfl
        · refine ⟨_, _, _, _, rfl, ((eH.trans e4).trans e5).trans e6, ?_⟩
          rw [wt]
          unfold weave1
          rw [if_neg (of_decide_eq_false hb), if_neg (by rw [hc]; exact Bool.false_ne_true)]
          exact ((e4.trans e5).trans e6) _ _ hL'
    · obtain ⟨b4, b5, b6, b7, rfl, e4, hL'⟩ := hh
      exact ⟨_, rfl, L, _, rfl, .inl (Evl.sq_of hL'), fun t H5 e5 st => q t H5 (e4.trans e5) st⟩
end
end Ov


namespace Ov
open PySem PySem.Spec PyProof.Rows L2
open Evl (pss_cut tCut Ex Ev EvT EvL EvA EvU)
/-! ### own rule: list.count of data -/
def rCntD (K : PySem.W.Frag) : V → List V → Hp → VK → Prop := fun x xs H Q => ∃ (a : Addr) (ws : List V) (y : V) (d : PyData) (ds : List PyData), x = V.ref a ∧ xs = [y] ∧ SqL K H a ws ∧ DpAll K H ws ds ∧ Dp K H y d ∧ SeqAt.shaped (.list ds) = true ∧ SeqAt.shaped d = true ∧ Q (.int (ds.countP fun z => PyData.eqv z d : Nat)) H
theorem mt_countD {X : Cx} (hu : X.A.units + 65 < cLine) : MtR X "list.count" (rCntD X.K) := by
  intro pins s σ H x xs v us Q I rx rxs h
  obtain ⟨a, ws, y, d, ds, rfl, rfl, hs, ha, hy, sl, sd, q⟩ := h
  cases rx
  cases rxs with
  | cons ry rt =>
    rename_i uy ut
    cases rt
    obtain ⟨bs, r1⟩ := Dp.reads I d y uy hy ry
    have hxs : PyData.canLayAll0 ds = true := SeqAt.canLay_of_shaped sl
    have hroom : X.A.units + 1 + min (PyData.depthAll ds) d.depth < cLine := room_in_shaped sd hu
    obtain ⟨its, rv, ⟨⟨cls, dd, data, sls⟩, n, ho, hc, hdn, hdt⟩, hlen⟩ := I.list hs
    simp only at hc hdt
    subst hc hdt
    obtain ⟨as, h4⟩ := Dp.readsAll I ds _ its ha rv
    have hmap : its.map (SeqAt.readOf s.heap) = ds := SeqAt.readsAll_map ds its as hxs h4
    refine call_meets PySem.F.slot_list_count ⟨_, ho, rfl⟩ PySem.F.entry_list_count (PySem.F.args_list_count_2 _ _)
      (SeqAt.list_countAt a its.toArray n dd sls uy (fun u => PyData.eqv (SeqAt.readOf s.heap u) d)) ⟨ho, SeqAt.items_eqAt (vs := its.toArray) (show ReadsAll s.heap its.toArray.toList ds as from h4) r1 hxs (SeqAt.canLay_of_shaped sd) hroom, ?_⟩
    have e : its.toArray.toList.countP (fun u => PyData.eqv (SeqAt.readOf s.heap u) d) = ds.countP fun z => PyData.eqv z d := by
      rw [← hmap, List.countP_map]
      rfl
    rw [e]
    exact ⟨.int (ds.countP fun z => PyData.eqv z d : Nat), H, I.tok _, ⟨_, rfl⟩, q⟩
/-! ### methods of a post -/
def evCome (i : Nat) : Str := ("come " : Str) ++ strI i
def evHeard (i : Nat) : Str := ("heard " : Str) ++ strI i
structure Plays (m : PoM) (g : Str) (d : Nat) (mm : CM) : Prop where
  n : nameB g = true
  dd : d < m.days
  l : m.ds.length ≤ 4000
  le : ∀ x ∈ m.ds, x.e.length ≤ 1000
  gd : ∀ r ∈ m.rs, r.Good
  hz : m.rs.length ≤ 1000
  zl : (m.weave g d).length ≤ 100
  zo : ∀ z ∈ m.weave g d, EvOk z
  go : (CM.start m.ks m.rs).goAll (m.weave g d) = some mm
theorem Plays.wf {m : PoM} {g : Str} {d : Nat} {mm : CM} (h : Plays m g d mm) : mm.WF := goAll_wf (CM.WF.start h.gd h.hz) h.zo h.go
section
variable {K : PySem.W.Frag} {CR CP CQ q : Addr} {H : Hp} {m : PoM} {σ : L2.St} {ta to : TE} {tr : TA} {D : Ends} {tz : TS}
theorem PostAt.fld (h : PostAt K CR CP CQ H q m) : ∃ dx fs, H q = some (.ins CQ dx fs) ∧ (∀ x, x ≠ ("plan" : Str) → x ≠ ("days" : Str) → x ≠ ("deeds" : Str) → fs.lookup x = none) := by
  obtain ⟨dx, p, dd, xs, h1, _⟩ := h
  refine ⟨dx, _, h1, fun x a b c => ?_⟩
  show List.lookup x [("plan", _), ("days", _), ("deeds", _)] = none
  rw [List.lookup_cons, show (x == ("plan" : Str)) = false from beq_eq_false_iff_ne.mpr a, List.lookup_cons, show (x == ("days" : Str)) = false from beq_eq_false_iff_ne.mpr b, List.lookup_cons, show (x == ("deeds" : Str)) = false from beq_eq_false_iff_ne.mpr c]
  rfl
/-- self.do(..) -/
theorem s_do {x : DD} (h : PostAt K CR CP CQ H q m) (hl : m.ds.length ≤ 4500) (ho : Ev to σ H (.ref q)) (ha : EvA tr σ H [gv x.g, ov x.d, .str x.e]) (k : ∀ H1, Kq q H H1 → PostAt K CR CP CQ H1 q (m.do x) → D.nx σ H1) : tDrop (tMeth CQ "do" (spDo K CR CP CQ) [] E0 to tr) D σ H :=
  ho H (Ex.refl _) _ fun H1 e1 => by
    obtain ⟨dx, fs, h1, h2⟩ := (h.ex e1).fld
    refine ⟨q, dx, fs, rfl, h1, h2 "do" (by decide) (by decide) (by decide), ha H1 e1 _ fun H2 e2 => ?_⟩
    exact ⟨q, m, x, rfl, h.ex (e1.trans e2), by omega, fun H3 k3 p3 => k H3 ((Kq.of (e1.trans e2)).trans k3) p3⟩
theorem q_do {x : DD} (h : PostAt K CR CP CQ H q m) (hl : m.ds.length ≤ 4500) (ho : Ev to σ H (.ref q)) (ha : EvA tr σ H [gv x.g, ov x.d, .str x.e]) (k : ∀ H1, Kq q H H1 → PostAt K CR CP CQ H1 q (m.do x) → tz D σ H1) : tSeq (tDrop (tMeth CQ "do" (spDo K CR CP CQ) [] E0 to tr)) tz D σ H :=
  s_do (D := { D with nx := tz D }) h hl ho ha k
/-- self.sent -/
theorem sent_go (h : PostAt K CR CP CQ H q m) (hl : m.ds.length ≤ 4500) (ho : Ev to σ H (.ref q)) : ∀ H1, Ex H H1 → ∀ Q : VK, (∀ t xs H2, Ex H1 H2 → SqT K H2 t xs → SentAt H2 xs m.sent → Q (.ref t) H2) → tProp CQ (spSent K CR CP CQ) [] E0 to σ H1 Q := fun H1 e1 Q k =>
  ho H1 e1 _ fun H2 e2 => by
    obtain ⟨dx, fs, h1, _⟩ := (h.ex (e1.trans e2)).fld
    exact ⟨q, dx, fs, rfl, h1, q, m, rfl, h.ex (e1.trans e2), by omega, fun t xs H3 e3 st sa => k t xs H3 (e2.trans e3) st sa⟩
theorem ev_lenSent (h : PostAt K CR CP CQ H q m) (hl : m.ds.length ≤ 4500) (ho : Ev to σ H (.ref q)) : Ev (tCB (Evl.rLenS K) (tCons (tProp CQ (spSent K CR CP CQ) [] E0 to) tNil)) σ H (.int (m.sent.length : Int)) := fun H1 e1 Q k =>
  sent_go h hl ho H1 e1 _ fun t xs H2 e2 st sa => ⟨t, xs, rfl, .inr st, by
    rw [paired_len sa]
    exact k H2 e2⟩
/-- self.given() -/
theorem given_go (h : PostAt K CR CP CQ H q m) (hl : m.ds.length ≤ 4500) (ho : Ev to σ H (.ref q)) : ∀ H1, Ex H H1 → ∀ Q : VK, (∀ L xs H2, Ex H1 H2 → H1 L = none → H2 L = some (.lst xs) → GivenAt H2 xs m.given → Q (.ref L) H2) → tMeth CQ "given" (spGiven K CR CP CQ) [] E0 to tNil σ H1 Q := fun H1 e1 Q k =>
  ho H1 e1 _ fun H2 e2 => by
    obtain ⟨dx, fs, h1, h2⟩ := (h.ex (e1.trans e2)).fld
    exact ⟨q, dx, fs, rfl, h1, h2 "given" (by decide) (by decide) (by decide), q, m, rfl, h.ex (e1.trans e2), by omega, fun L xs H3 e3 nL hL ga => k L xs H3 (e2.trans e3) (Evl.fresh_back e2 nL) hL ga⟩
theorem ev_lenGiven (h : PostAt K CR CP CQ H q m) (hl : m.ds.length ≤ 4500) (ho : Ev to σ H (.ref q)) : Ev (tCB (Evl.rLenS K) (tCons (tMeth CQ "given" (spGiven K CR CP CQ) [] E0 to tNil) tNil)) σ H (.int (m.given.length : Int)) := fun H1 e1 Q k =>
  given_go h hl ho H1 e1 _ fun t xs H2 e2 _ hL sa => ⟨t, xs, rfl, .inl (Evl.sq_of hL), by
    rw [paired_len sa]
    exact k H2 e2⟩
end
def spPostInit (K : PySem.W.Frag) (CR CP CQ : Addr) : Sp := fun vs H Q _ => ∃ (B : Hp) (x p dx : Addr) (n : Nat) (ks : List Str) (rs : List RuleD), vs = [.ref x, .ref p, .int (n : Int)] ∧ H x = some (.ins CQ dx []) ∧ Ex B H ∧ B x = none ∧ PlanIs K CR CP ks rs p B ∧ ∀ H', Ex B H' → PostAt K CR CP CQ H' x ⟨ks, rs, n, []⟩ → Q .non H'
def spPostLen (K : PySem.W.Frag) (CR CP CQ : Addr) : Sp := fun vs H Q _ => ∃ (q : Addr) (m : PoM), vs = [.ref q] ∧ PostAt K CR CP CQ H q m ∧ ∀ H', Ex H H' → Q (.int (m.ds.length : Int)) H'
def spUndo (K : PySem.W.Frag) (CR CP CQ : Addr) : Sp := fun vs H Q _ => ∃ (q : Addr) (m : PoM), vs = [.ref q] ∧ PostAt K CR CP CQ H q m ∧ 0 < m.ds.length ∧ m.ds.length ≤ 4000 ∧ ∀ H', Kq q H H' → PostAt K CR CP CQ H' q { m with ds := m.ds.dropLast } → Q (.bl true) H'
def spSendP (K : PySem.W.Frag) (CR CP CQ : Addr) : Sp := fun vs H Q _ => ∃ (q : Addr) (m : PoM) (k : Str) (d : Option Nat), vs = [.ref q, .str k, ov d] ∧ PostAt K CR CP CQ H q m ∧ k ∈ lettersL ∧ (if wholeKind k = true then d = none else ∃ j, d = some j ∧ j < m.days) ∧ m.ds.length ≤ 4000 ∧ ∀ H', Kq q H H' → PostAt K CR CP CQ H' q (m.do ⟨none, d, k⟩) → Q (.int ((m.do ⟨none, d, k⟩).sent.length - 1 : Int)) H'
def spComeP (K : PySem.W.Frag) (CR CP CQ : Addr) : Sp := fun vs H Q _ => ∃ (q : Addr) (m : PoM) (g : Str) (i : Nat) (l : L3), vs = [.ref q, .str g, .int (i : Int)] ∧ PostAt K CR CP CQ H q m ∧ nameB g = true ∧ m.sent[i]? = some l ∧ m.ds.length ≤ 4000 ∧ i ≤ 1000 ∧ ∀ H', Kq q H H' → PostAt K CR CP CQ H' q (m.do ⟨some g, l.2.1, evCome i⟩) → Q .non H'
def spPlayedQ (K : PySem.W.Frag) (CR CP CQ CD : Addr) : Sp := fun vs H Q _ => ∃ (q : Addr) (m : PoM) (g : Str) (d : Nat) (mm : CM), vs = [.ref q, .str g, .int (d : Int)] ∧ PostAt K CR CP CQ H q m ∧ Plays m g d mm ∧ ∀ o H', Ex H H' → PlayedAt K CD H' o mm → Q (.ref o) H'
def spLookP (K : PySem.W.Frag) (CR CP CQ : Addr) : Sp := fun vs H Q _ => ∃ (q : Addr) (m : PoM) (g : Str) (d : Nat) (mm : CM), vs = [.ref q, .str g, .int (d : Int)] ∧ PostAt K CR CP CQ H q m ∧ Plays m g d mm ∧ ∀ H', Ex H H' → Q (ov mm.view) H'
def spGoalsP (K : PySem.W.Frag) (CR CP CQ : Addr) : Sp := fun vs H Q _ => ∃ (q : Addr) (m : PoM) (g : Str) (d : Nat) (mm : CM), vs = [.ref q, .str g, .int (d : Int)] ∧ PostAt K CR CP CQ H q m ∧ Plays m g d mm ∧ ∀ t H', Ex H H' → SqT K H' t (mm.goalsT.map V.str) → Q (.ref t) H'
section
variable {P : Program} {w : World} {K : PySem.W.Frag} {mg : Str → Option Value} {base : Heap} {a_LETTERS a_LETTER_TESTS a_LETTER_DEEDS a_ANSWER_TESTS a_ANSWER_DEEDS CR CP CC CQ CD : Addr} {tA tN tO tCm tHd tAn : Tok}
theorem scPostInit : FnScope ["self", "plan", "days"] ["self", "plan", "days"] (defScope sPostInit) := ⟨rfl, rfl, rfl, by decide +kernel, rfl, by decide +kernel, by decide +kernel⟩
theorem scPostLen : FnScope ["self"] ["self"] (defScope sPostLen) := ⟨rfl, rfl, rfl, by decide +kernel, rfl, by decide +kernel, by decide +kernel⟩
theorem scPostUndo : FnScope ["self", "was_there"] ["self"] (defScope sPostUndo) := ⟨rfl, rfl, rfl, by decide +kernel, rfl, by decide +kernel, by decide +kernel⟩
theorem scPostSend : FnScope ["self", "kind", "day", "fits"] ["self", "kind", "day"] (defScope sPostSend) := ⟨rfl, rfl, rfl, by decide +kernel, rfl, by decide +kernel, by decide +kernel⟩
theorem scPostCome : FnScope ["self", "guest", "place", "letters"] ["self", "guest", "place"] (defScope sPostCome) := ⟨rfl, rfl, rfl, by decide +kernel, rfl, by decide +kernel, by decide +kernel⟩
theorem scPostPlayed : FnScope ["self", "guest", "day"] ["self", "guest", "day"] (defScope sPostPlayed) := ⟨rfl, rfl, rfl, by decide +kernel, rfl, by decide +kernel, by decide +kernel⟩
theorem scPostLook : FnScope ["self", "guest", "day"] ["self", "guest", "day"] (defScope sPostLook) := ⟨rfl, rfl, rfl, by decide +kernel, rfl, by decide +kernel, by decide +kernel⟩
theorem ok_post_init {f : Addr} {fd : FuncData} {dvs : List V} {kws : List (Str × V)} (F : FunD K "__init__" "Post.__init__" (defArgs sPostInit) (defBody sPostInit) (defScope sPostInit) dvs kws f fd) (TQ : TxQ K mg CQ tCm tHd tAn) : FnOk P w K mg base CX0 1 f fd ["self", "plan", "days"] (spPostInit K CR CP CQ) := by
  refine FunD_ok0 F scPostInit (fun vs H Q E h => ?_) (fun cdv A outer s H vs Q E hr h => ?_)
  · obtain ⟨B, x, p, dx, n, ks, rs, rfl, _⟩ := h
    rfl
  · obtain ⟨B, x, p, dx, n, ks, rs, rfl, hx, eB, nB, hp, q⟩ := h
    refine ⟨_, pss_cons (ps_fld (pv 0) (pv 1) rfl)
      (pss_cons (ps_fld (pv 0) (pv 2) rfl)
      (pss_one (ps_fld (pv 0) (pe_tup pa_nil) rfl))), ?_⟩
    have I0 : Ini B CQ x dx H [] [] 0 := ⟨eB, nB, hx, fun q hq => (nomatch hq), List.nodup_nil, Nat.le_refl _⟩
    refine q_ini I0 (by decide) TQ.cl TQ.plan (Evl.ev_var rfl) (Evl.ev_var rfl) fun H1 I1 => ?_
    refine q_ini I1 (by decide) TQ.cl TQ.days (Evl.ev_var rfl) (Evl.ev_var rfl) fun H2 I2 => ?_
    refine s_iniN (o := .tup []) I2 (by decide) TQ.cl TQ.deeds (fun H3 e3 Q3 q3 => ⟨Nat.zero_le _, fun p np => q3 p _ np (Ex.new np) upd_same⟩) (Evl.ev_var rfl) fun dd H3 I3 => ?_
    exact q H3 I3.ex ⟨dx, p, dd, [], I3.ob.trans (by kernel_rfl), hp.ex I3.ex, Evl.st_of (I3.oo _ List.mem_cons_self).1, .nil⟩
theorem ok_post_len {f : Addr} {fd : FuncData} (F : Fun K "__len__" "Post.__len__" sPostLen f fd) (TP : TxP K mg CP) (TQ : TxQ K mg CQ tCm tHd tAn) : FnOk P w K mg base CX0 1 f fd ["self"] (spPostLen K CR CP CQ) := by
  refine F.ok scPostLen (fun vs H Q E h => ?_) (fun cdv A outer s H vs Q E hr h => ?_)
  · obtain ⟨q, m, rfl, _⟩ := h
    rfl
  · obtain ⟨a, m, rfl, ⟨dx, p, dd, xs, h1, h2, h3, h4⟩, q⟩ := h
    refine ⟨_, pss_one (ps_ret (pe_callB call_len_seq (by rfl) TP.n_len (by decide +kernel) (pa_cons (pe_fld (pv 0) rfl) pa_nil))), ?_⟩
    refine Evl.s_ret (v := .int (m.ds.length : Int)) (Evl.ev_is (ev_lenT (ev_fld (Evl.ev_var rfl) h1 TQ.cl TQ.deeds q_deeds) h3) (by rw [paired_len h4])) q
theorem deeds_cut {H : Hp} {xs : List V} {ds : List DD} (h : DeedsAt H xs ds) : DeedsAt H (cutV xs none (some (-1))) ds.dropLast := by
  have hl := paired_len h
  have e : cutV xs none (some (-1)) = xs.take (xs.length - 1) := by
    unfold cutV
    have a : HT.sIx xs.length 0 none = 0 := rfl
    have b : HT.sIx xs.length xs.length (some (-1)) = xs.length - 1 := by
      unfold HT.sIx
      simp only
      split <;> omega
    rw [a, b, List.drop_zero, Nat.sub_zero]
  rw [e, List.dropLast_eq_take, hl]
  have go : ∀ (n : Nat) {xs : List V} {ds : List DD}, DeedsAt H xs ds → DeedsAt H (xs.take n) (ds.take n) := by
    intro n
    induction n with
    | zero => intro xs ds _; exact .nil
    | succ n ih =>
      intro xs ds h
      cases h with
      | nil => exact .nil
      | cons a r => exact .cons a (ih r)
  exact go _ h
theorem ok_undo {f : Addr} {fd : FuncData} (F : Fun K "undo" "Post.undo" sPostUndo f fd) (TP : TxP K mg CP) (TQ : TxQ K mg CQ tCm tHd tAn) : FnOk P w K mg base CX0 1 f fd ["self"] (spUndo K CR CP CQ) := by
  refine F.ok scPostUndo (fun vs H Q E h => ?_) (fun cdv A outer s H vs Q E hr h => ?_)
  · obtain ⟨q, m, rfl, _⟩ := h
    rfl
  · obtain ⟨a, m, rfl, pa, hz, hl, q⟩ := h
    obtain ⟨dx, p, dd, xs, h1, h2, h3, h4⟩ := id pa
    refine ⟨_, pss_cons (ps_set (i := 1) scPostUndo.nd rfl (.inl rfl) (pe_cmpR op_gt (pe_callB call_len_seq (by rfl) TP.n_len (by decide +kernel) (pa_cons (pe_fld (pv 0) rfl) pa_nil)) pe_int (nomark _)))
      (pss_cons (ps_fld (pv 0) (pe_slice sl_tupA (pe_fld (pv 0) rfl) po_none (po_some (pe_un un_neg pe_int))) rfl)
      (pss_one (ps_ret (pv 1)))), ?_⟩
    have lx := paired_len h4
    refine Evl.q_asg (v := .bl true) (Evl.ev_is (Evl.ev_op (ev_lenT (ev_fld (Evl.ev_var rfl) h1 TQ.cl TQ.deeds q_deeds) h3) Evl.ev_c Evl.rv_I0) (by
      show V.bl (decide ((xs.length : Int) > 0)) = _
      rw [decide_eq_true (by omega)])) fun H1 e1 => ?_
    refine qs_deeds (ds := m.ds.dropLast) (pa.ex e1) TQ.cl TQ.deeds (fun Q' k' => ?_) (fun H1 e1 => Evl.ev_var rfl) fun H2 k2 p2 => ?_
    · exact (ev_slA (xs := xs) (ev_fld (Evl.ev_var rfl) (e1 _ _ h1) TQ.cl TQ.deeds q_deeds) Evl.eo_none (Evl.eo_some (Evl.ev_un Evl.ev_c Evl.ru_neg)) (Evl.ex_t e1 h3)) H1 (Ex.refl _) _ fun t H2 e2 st => k' t _ H2 e2 st (deeds_cut (h4.keep fun _ _ z => (e1.trans e2) _ _ z))
    · exact Evl.s_ret (v := .bl true) (Evl.ev_var rfl) fun H3 e3 => q H3 (((Kq.of e1).trans k2).trans (Kq.of e3)) (p2.ex e3)
theorem ok_pcome {f fN fI fPl fCN fDo fSe : Addr} {pSe : Addr} {fd fdN fdI fdPl fdCN fdDo fdSe : FuncData} (F : Fun K "come" "Post.come" sPostCome f fd) (T : TxR K mg a_LETTERS a_LETTER_TESTS a_LETTER_DEEDS a_ANSWER_TESTS a_ANSWER_DEEDS CR tA tN) (TP : TxP K mg CP) (TQ : TxQ K mg CQ tCm tHd tAn)
    (D_is_name : Df K mg "is_name" sIsName ["value"] fN fdN) (D_check_name : Df K mg "check_name" sCheckName ["value", "word"] fCN fdCN) (D_is_integer : Df K mg "is_integer" sIsInteger ["value"] fI fdI) (D_is_place : Df K mg "is_place" sIsPlace ["value", "many"] fPl fdPl)
    (P_sent : PropOf K CQ "sent" pSe fSe) (G_sent : FnOk P w K mg base CX0 1 fSe fdSe ["self"] (spSent K CR CP CQ)) (b_sent : Binds K fdSe ["self"] [])
    (M_do : Meth K CQ "do" fDo) (G_do : FnOk P w K mg base CX0 1 fDo fdDo ["self", "guest", "day", "event"] (spDo K CR CP CQ)) (b_do : Binds K fdDo ["self", "guest", "day", "event"] []) : FnOk P w K mg base CX0 3 f fd ["self", "guest", "place"] (spComeP K CR CP CQ) := by
  have G_check_name : FnOk P w K mg base CX0 2 fCN fdCN ["value", "word"] spCheckName := ok_check_name D_check_name.F T D_is_name
  have G_is_place : FnOk P w K mg base CX0 2 fPl fdPl ["value", "many"] spIsPlace := ok_is_place D_is_place.F TP D_is_integer
  refine F.ok scPostCome (fun vs H Q E h => ?_) (fun cdv A outer s H vs Q E hr h => ?_)
  · obtain ⟨q, m, g, i, l, rfl, _⟩ := h
    rfl
  · obtain ⟨a, m, g, i, l, rfl, pa, hn, hi, hl, hs, q⟩ := h
    refine ⟨_, pss_cons (ps_expr (pe_call G_check_name (hr.mono (by decide)) rfl D_check_name.g D_check_name.F.kp D_check_name.b .nil pass0 (pa_cons (pv 1) (pa_cons pe_str pa_nil))))
      (pss_cons (ps_set (i := 3) scPostCome.nd rfl (.inl rfl) (pe_prop (E := E0) (pv 0) TQ.cl P_sent G_sent (hr.mono (by decide)) b_sent .nil pass0 rfl))
      (pss_cons (ps_if (pt_not (pt_val (pe_call G_is_place (hr.mono (by decide)) rfl D_is_place.g D_is_place.F.kp D_is_place.b .nil pass0 (pa_cons (pv 2) (pa_cons (pe_callB call_len_seq (by rfl) TP.n_len (by decide +kernel) (pa_cons (pv 3) pa_nil)) pa_nil))))) (pss_one ps_never) pss_nil)
      (pss_one (ps_expr (pe_meth (E := E0) (pv 0) TQ.cl M_do G_do (hr.mono (by decide)) b_do .nil pass0 (pa_cons (pv 1) (pa_cons (pe_ix ix_tup (pe_ix ix_tup (pv 3) (pv 2) (fun _ _ => rfl)) pe_int (fun _ _ => rfl)) (pa_cons (pe_joined (.cons (pe_fmt (pe_glob (v := .str "come ") rfl TQ.g_COME ⟨_, rfl⟩)) (.cons (pe_fmt (pv 2)) .nil))) pa_nil)))))))), ?_⟩
    refine Evl.q_drop (v := .non) (ev_call (Evl.ea_cons (Evl.ev_var rfl) (Evl.ea_cons Evl.ev_c Evl.ea_nil)) fun H1 e1 Q1 q1 => ⟨g, "guest", rfl, hn, fun H2 e2 => q1 H2 e2⟩) fun H1 e1 => ?_
    refine q_put (sent_go (pa.ex e1) (by omega) (Evl.ev_var rfl) H1 (Ex.refl _) _ fun t xs H2 e2 st sa => ?_)
    have p2 := pa.ex (e1.trans e2)
    have ls := paired_len sa
    have hi2 := (List.getElem?_eq_some_iff.mp hi).1
    refine Evl.q_when (b := false) (Evl.et_is (Evl.et_not (a := true) (Evl.et_B (ev_call (v := .bl true) (Evl.ea_cons (Evl.ev_var rfl) (Evl.ea_cons (ev_lenT (Evl.ev_var rfl) st) Evl.ea_nil)) fun H3 e3 Q1 q1 => ⟨(i : Int), (xs.length : Int), rfl, by
      rw [decide_eq_true (show (0 : Int) ≤ (i : Int) by omega), decide_eq_true (show (i : Int) < (xs.length : Int) by omega)]
      exact q1 H3 (Ex.refl _)⟩))) rfl) (fun z => nomatch z) (fun _ H3 e3 => ?_)
    obtain ⟨x, hx⟩ : ∃ x, xs[i]? = some x := ⟨_, List.getElem?_eq_getElem (by omega)⟩
    obtain ⟨u, l', rfl, hl', hu⟩ := tups_at (f := fun l : L3 => [.str l.1, ov l.2.1, .int l.2.2]) sa hx
    obtain rfl := Option.some.inj (hi.symm.trans hl')
    have lc : (strI i).length ≤ 10 := strI_len hs
    refine s_do (x := ⟨some g, l.2.1, evCome i⟩) (p2.ex e3) (by omega) (Evl.ev_var rfl) (Evl.ea_cons (Evl.ev_var rfl) (Evl.ea_cons (ev_ixT (j := 1) (Evl.ev_op (Evl.ev_var rfl) (Evl.ev_var rfl) (Evl.rv_ixT (Evl.ex_t e3 st) (atI_nat hx))) Evl.ev_c (Evl.st_of (e3 _ _ hu)) rfl) (Evl.ea_cons (ev_js2 (y := "come ") (z := strI i) (ev_fmtS Evl.ev_c (by decide +kernel)) (ev_fmtI (Evl.ev_var rfl) (Nat.lt_of_lt_of_le (log_small (k := 20) (by simp; omega) (by decide)) (by decide))) (Nat.le_trans (Nat.add_le_add (show ("come " : Str).length ≤ 5 by decide +kernel) lc) (by decide))) Evl.ea_nil))) fun H4 k4 p4 => q H4 ((Kq.of ((e1.trans e2).trans e3)).trans k4) p4
theorem ok_played {f fWv fPy : Addr} {fd fdWv fdPy : FuncData} (F : Fun K "played" "Post.played" sPostPlayed f fd) (TQ : TxQ K mg CQ tCm tHd tAn) (M_weaving_for : Meth K CQ "weaving_for" fWv) (G_weaving_for : FnOk P w K mg base CX0 3 fWv fdWv ["self", "guest", "day"] (spWeave K CR CP CQ)) (b_weaving_for : Binds K fdWv ["self", "guest", "day"] [])
    (D_play : Df K mg "play" sPlay ["plan", "weaving"] fPy fdPy) (G_play : FnOk P w K mg base CX0 6 fPy fdPy ["plan", "weaving"] (spPlay K CR CP CD)) : FnOk P w K mg base CX0 7 f fd ["self", "guest", "day"] (spPlayedQ K CR CP CQ CD) := by
  refine F.ok scPostPlayed (fun vs H Q E h => ?_) (fun cdv A outer s H vs Q E hr h => ?_)
  · obtain ⟨q, m, g, d, mm, rfl, _⟩ := h
    rfl
  · obtain ⟨a, m, g, d, mm, rfl, pa, hy, q⟩ := h
    obtain ⟨dx, p, dd, xs, h1, h2, h3, h4⟩ := id pa
    refine ⟨_, pss_one (ps_ret (pe_call (E := E0) G_play (hr.mono (by decide)) rfl D_play.g D_play.F.kp D_play.b .nil pass0 (pa_cons (pe_fld (pv 0) rfl) (pa_cons (pe_meth (E := E0) (pv 0) TQ.cl M_weaving_for G_weaving_for (hr.mono (by decide)) b_weaving_for .nil pass0 (pa_cons (pv 1) (pa_cons (pv 2) pa_nil))) pa_nil)))), ?_⟩
    refine ⟨_, rfl, a, CQ, dx, _, _, rfl, h1, TQ.cl, TQ.plan, q_plan, _, rfl, a, dx, _, rfl, h1, rfl, _, rfl, _, rfl, a, m, g, d, rfl, pa, hy.n, hy.dd, by have := hy.l; omega, hy.le, fun t H1 e1 st => ?_⟩
    exact ⟨p, t, m.ks, m.rs, m.weave g d, mm, rfl, h2.ex e1, hy.gd, hy.hz, .inr st, hy.zl, hy.zo, hy.go, fun o H2 e2 po => q o H2 (e1.trans e2) po⟩
theorem ok_psend {dvs : List V} {kws : List (Str × V)} {f fI fPl fDo fSe fWK : Addr} {pSe : Addr} {fd fdI fdPl fdDo fdSe fdWK : FuncData} (F : FunD K "send" "Post.send" (defArgs sPostSend) (defBody sPostSend) (defScope sPostSend) dvs kws f fd) (T : TxR K mg a_LETTERS a_LETTER_TESTS a_LETTER_DEEDS a_ANSWER_TESTS a_ANSWER_DEEDS CR tA tN) (TP : TxP K mg CP) (TQ : TxQ K mg CQ tCm tHd tAn)
    (D_is_whole_kind : Df K mg "is_whole_kind" sIsWholeKind ["kind"] fWK fdWK) (D_is_integer : Df K mg "is_integer" sIsInteger ["value"] fI fdI) (D_is_place : Df K mg "is_place" sIsPlace ["value", "many"] fPl fdPl)
    (P_sent : PropOf K CQ "sent" pSe fSe) (G_sent : FnOk P w K mg base CX0 1 fSe fdSe ["self"] (spSent K CR CP CQ)) (b_sent : Binds K fdSe ["self"] [])
    (M_do : Meth K CQ "do" fDo) (G_do : FnOk P w K mg base CX0 1 fDo fdDo ["self", "guest", "day", "event"] (spDo K CR CP CQ)) (b_do : Binds K fdDo ["self", "guest", "day", "event"] []) : FnOk P w K mg base CX0 3 f fd ["self", "kind", "day"] (spSendP K CR CP CQ) := by
  have G_is_whole_kind : FnOk P w K mg base CX0 1 fWK fdWK ["kind"] spWholeKind := ok_whole_kind D_is_whole_kind.F
  have G_is_place : FnOk P w K mg base CX0 2 fPl fdPl ["value", "many"] spIsPlace := ok_is_place D_is_place.F TP D_is_integer
  refine FunD_ok0 F scPostSend (fun vs H Q E h => ?_) (fun cdv A outer s H vs Q E hr h => ?_)
  · obtain ⟨q, m, k, d, rfl, _⟩ := h
    rfl
  · obtain ⟨a, m, k, d, rfl, pa, hk, hd, hl, q⟩ := h
    obtain ⟨dx, p, dd, xs, h1, h2, h3, h4⟩ := id pa
    refine ⟨_, pss_cons (ps_if (pt_cmpR op_notIn_seq (pv 1) (pe_glob (v := .ref a_LETTERS) rfl T.g_LETTERS rfl) (by rfl)) (pss_one ps_never) pss_nil)
      (pss_cons (ps_set (i := 3) scPostSend.nd rfl (.inl rfl) (pe_ifExp (pt_val (pe_call G_is_whole_kind (hr.mono (by decide)) rfl D_is_whole_kind.g D_is_whole_kind.F.kp D_is_whole_kind.b .nil pass0 (pa_cons (pv 1) pa_nil))) (pe_cmpR op_isN (pv 2) pe_non (nomark _)) (pe_call G_is_place (hr.mono (by decide)) rfl D_is_place.g D_is_place.F.kp D_is_place.b .nil pass0 (pa_cons (pv 2) (pa_cons (pe_fld (pv 0) rfl) pa_nil)))))
      (pss_cons (ps_if (pt_not (pt_val (pv 3))) (pss_one ps_never) pss_nil)
      (pss_cons (ps_expr (pe_meth (E := E0) (pv 0) TQ.cl M_do G_do (hr.mono (by decide)) b_do .nil pass0 (pa_cons pe_non (pa_cons (pv 2) (pa_cons (pv 1) pa_nil)))))
      (pss_one (ps_ret (pe_op op_sub (pe_callB call_len_seq (by rfl) TP.n_len (by decide +kernel) (pa_cons (pe_prop (E := E0) (pv 0) TQ.cl P_sent G_sent (hr.mono (by decide)) b_sent .nil pass0 rfl) pa_nil)) pe_int)))))), ?_⟩
    refine Evl.q_when (b := false) (Evl.et_test (Evl.ev_is (Evl.ev_op (Evl.ev_var rfl) Evl.ev_c (Evl.rv_niT (T.s_LETTERS _) rfl (flat_strs _))) (by
      rw [inV_strs]
      show V.bl (!decide (k ∈ lettersL)) = _
      rw [decide_eq_true hk]
      rfl))) (fun z => nomatch z) (fun _ H1 e1 => ?_)
    refine Evl.q_asg (v := .bl true) (Evl.ev_if (b := wholeKind k) (Evl.et_B (ev_call (Evl.ea_cons (Evl.ev_var rfl) Evl.ea_nil) fun H2 e2 Q2 q2 => ⟨k, rfl, fun H3 e3 => q2 H3 e3⟩)) (fun hw => ?_) (fun hw => ?_)) fun H2 e2 => ?_
    · rw [if_pos hw] at hd
      subst hd
      exact Evl.ev_op (Evl.ev_var rfl) Evl.ev_c rv_isN
    · rw [if_neg (by rw [hw]; exact Bool.false_ne_true)] at hd
      obtain ⟨j, rfl, hj⟩ := hd
      refine ev_call (Evl.ea_cons (Evl.ev_var rfl) (Evl.ea_cons (ev_fld (Evl.ev_var rfl) (e1 _ _ h1) TQ.cl TQ.days q_days) Evl.ea_nil)) fun H3 e3 Q3 q3 => ⟨(j : Int), (m.days : Int), rfl, ?_⟩
      rw [decide_eq_true (show (0 : Int) ≤ (j : Int) by omega), decide_eq_true (show (j : Int) < (m.days : Int) by omega)]
      exact q3 H3 (Ex.refl _)
    refine Evl.q_when (b := false) (Evl.et_is (Evl.et_not (a := true) (Evl.et_B (Evl.ev_var rfl))) rfl) (fun z => nomatch z) (fun _ H3 e3 => ?_)
    refine q_do (x := ⟨none, d, k⟩) (pa.ex ((e1.trans e2).trans e3)) (by omega) (Evl.ev_var rfl) (Evl.ea_cons Evl.ev_c (Evl.ea_cons (Evl.ev_var rfl) (Evl.ea_cons (Evl.ev_var rfl) Evl.ea_nil))) fun H4 k4 p4 => ?_
    have hl2 : (m.do ⟨none, d, k⟩).ds.length ≤ 4500 := by
      show (m.ds ++ [_]).length ≤ 4500
      rw [List.length_append]
      show m.ds.length + 1 ≤ 4500
      omega
    exact Evl.s_ret (v := .int ((m.do ⟨none, d, k⟩).sent.length - 1 : Int)) (Evl.ev_op (ev_lenSent p4 hl2 (Evl.ev_var rfl)) Evl.ev_c Evl.rv_I0) fun H5 e5 => q H5 (((Kq.of ((e1.trans e2).trans e3)).trans k4).trans (Kq.of e5)) (p4.ex e5)
theorem ok_plook {f fPy : Addr} {fd fdPy : FuncData} (F : Fun K "look" "Post.look" sPostLook f fd) (TQ : TxQ K mg CQ tCm tHd tAn) (TD : TxD K mg CD) (M_played : Meth K CQ "played" fPy) (G_played : FnOk P w K mg base CX0 7 fPy fdPy ["self", "guest", "day"] (spPlayedQ K CR CP CQ CD)) (b_played : Binds K fdPy ["self", "guest", "day"] []) :
    FnOk P w K mg base CX0 8 f fd ["self", "guest", "day"] (spLookP K CR CP CQ) := by
  refine F.ok scPostLook (fun vs H Q E h => ?_) (fun cdv A outer s H vs Q E hr h => ?_)
  · obtain ⟨q, m, g, d, mm, rfl, _⟩ := h
    rfl
  · obtain ⟨a, m, g, d, mm, rfl, pa, hy, q⟩ := h
    obtain ⟨dx, p, dd, xs, h1, h2, h3, h4⟩ := id pa
    refine ⟨_, pss_one (ps_ret (pe_ix ix_tup (pe_fld (pe_meth (E := E0) (pv 0) TQ.cl M_played G_played (hr.mono (by decide)) b_played .nil pass0 (pa_cons (pv 1) (pa_cons (pv 2) pa_nil))) rfl) (pe_un un_neg pe_int) (fun _ _ => rfl))), ?_⟩
    refine ⟨_, rfl, a, dx, _, rfl, h1, rfl, _, rfl, _, rfl, a, m, g, d, mm, rfl, pa, hy, fun o H1 e1 po => ?_⟩
    obtain ⟨dz, x1, x2, x3, x4, x5, ys, o1, o2, o3, o4, o5, o6, o7⟩ := po
    exact ⟨o, CD, dz, _, _, rfl, o1, TD.cl, TD.shows, pd_shows, 1, rfl, _, _, _, _, rfl, rfl, o4, last_ov hy.wf.sne, q H1 e1⟩
/-! ### hand, answer, heard, counted_for -/
def gD : Option Str → PyData
  | none => .none
  | some x => .str x
def pD (l : Option Str × Option Nat) : PyData := .tuple [gD l.1, dO l.2]
theorem eqv_pair (a b : Option Str × Option Nat) : PyData.eqv (pD a) (pD b) = decide (a = b) := by
  obtain ⟨a1, a2⟩ := a
  obtain ⟨b1, b2⟩ := b
  show (PyData.eqv (gD a1) (gD b1) && (PyData.eqv (dO a2) (dO b2) && true)) = _
  have e1 : PyData.eqv (gD a1) (gD b1) = decide (a1 = b1) := by
    cases a1 <;> cases b1 <;> first | rfl | skip
    rename_i x y
    show (x == y) = decide (some x = some y)
    by_cases h : x = y
    · subst h
      simp
    · rw [beq_eq_false_iff_ne.mpr h, decide_eq_false (fun z => h (Option.some.inj z))]
  have e2 : PyData.eqv (dO a2) (dO b2) = decide (a2 = b2) := by
    cases a2 <;> cases b2 <;> first | rfl | skip
    rename_i x y
    show ((x : Int) == (y : Int)) = decide (some x = some y)
    by_cases h : x = y
    · subst h
      simp
    · rw [beq_eq_false_iff_ne.mpr (fun z => h (by omega)), decide_eq_false (fun z => h (Option.some.inj z))]
  rw [e1, e2, Bool.and_true]
  by_cases h1 : a1 = b1 <;> by_cases h2 : a2 = b2 <;> simp [h1, h2]
def PlainG (m : PoM) : Prop := ∀ x ∈ m.ds, ∀ z, x.g = some z → PyData.canLay0 (.str z) = true
theorem gd_pair {l : Option Str × Option Nat} (h : ∀ z, l.1 = some z → PyData.canLay0 (.str z) = true) : GD (pD l) 1 := GD.tup (n := 0) fun d hd => by
  simp only [List.mem_cons, List.not_mem_nil, or_false] at hd
  rcases hd with rfl | rfl
  · cases e : l.1 with
    | none => exact GD.none 0
    | some z => exact GD.str (h z e) 0
  · exact GD.ov _ 0
theorem given_plain {m : PoM} (h : PlainG m) : ∀ l ∈ m.given, ∀ z, l.1 = some z → PyData.canLay0 (.str z) = true := fun l hl z e => by
  obtain ⟨x, hx, rfl⟩ := List.mem_map.mp hl
  exact h x (List.mem_filter.mp hx).1 z e
section
variable {H : Hp} {σ : L2.St}
theorem dp_gv (g : Option Str) : Dp K H (gv g) (gD g) := by
  cases g with
  | none => exact .non
  | some x => exact .str x
theorem dpa_given : ∀ {xs : List V} {ls : List (Option Str × Option Nat)}, GivenAt H xs ls → DpAll K H xs (ls.map pD)
  | _, _, .nil => .nil
  | _, _, .cons ⟨t, h1, h2⟩ r => by
    rw [h1]
    exact .cons (.tup (Evl.st_of h2) (.cons (dp_gv _) (.cons (dp_ov _) .nil))) (dpa_given r)
theorem given_take2 {xs : List V} {ls : List (Option Str × Option Nat)} (h : GivenAt H xs ls) (n : Nat) : GivenAt H (xs.take n) (ls.take n) := by
  induction n generalizing xs ls with
  | zero => exact .nil
  | succ n ih =>
    cases h with
    | nil => exact .nil
    | cons a r => exact .cons a (ih r)
end
theorem nx_go {a c d : L2.St → Hp → Prop} {b : VK} {σ : L2.St} {H : Hp} (h : a σ H) : ({ nx := a, rt := b, bk := c, ct := d } : Ends).nx σ H := h
def spHandP (K : PySem.W.Frag) (CR CP CQ : Addr) : Sp := fun vs H Q _ => ∃ (q : Addr) (m : PoM) (g : Str) (d : Nat) (o : Str) (mm : CM) (i : Nat) (l : L3), vs = [.ref q, .str g, .int (d : Int), .str o] ∧ PostAt K CR CP CQ H q m ∧ Plays m g d mm ∧ mm.view = some i ∧ nameB o = true ∧ m.sent[i]? = some l ∧ i ≤ 1000 ∧ ∀ H', Kq q H H' → PostAt K CR CP CQ H' q (m.do ⟨some o, l.2.1, evCome i⟩) → Q .non H'
def spAnswerP (K : PySem.W.Frag) (CR CP CQ : Addr) : Sp := fun vs H Q _ => ∃ (q : Addr) (m : PoM) (g : Str) (d : Nat) (mm : CM) (i : Nat) (l : L3), vs = [.ref q, .str g, .int (d : Int)] ∧ PostAt K CR CP CQ H q m ∧ Plays m g d mm ∧ mm.view = some i ∧ m.sent[i]? = some l ∧ l.1 ∈ (["ask", "day"] : List Str) ∧ ∀ H', Kq q H H' → PostAt K CR CP CQ H' q (m.do ⟨some g, some d, "answer"⟩) → Q (.int ((m.do ⟨some g, some d, "answer"⟩).given.length - 1 : Int)) H'
def spHeardP (K : PySem.W.Frag) (CR CP CQ : Addr) : Sp := fun vs H Q _ => ∃ (q : Addr) (m : PoM) (n : Nat) (l : Option Str × Option Nat), vs = [.ref q, .int (n : Int)] ∧ PostAt K CR CP CQ H q m ∧ m.given[n]? = some l ∧ PlainG m ∧ m.ds.length ≤ 1000 ∧ ∀ H', Kq q H H' → PostAt K CR CP CQ H' q (m.do ⟨l.1, l.2, evHeard ((m.given.take n).countP fun p => decide (p = l))⟩) → Q .non H'
theorem scPostHand : FnScope ["self", "guest", "day", "other"] ["self", "guest", "day", "other"] (defScope sPostHand) := ⟨rfl, rfl, rfl, by decide +kernel, rfl, by decide +kernel, by decide +kernel⟩
theorem scPostAnswer : FnScope ["self", "guest", "day", "place"] ["self", "guest", "day"] (defScope sPostAnswer) := ⟨rfl, rfl, rfl, by decide +kernel, rfl, by decide +kernel, by decide +kernel⟩
theorem scPostHeard : FnScope ["self", "number", "answers", "guest", "day", "own"] ["self", "number"] (defScope sPostHeard) := ⟨rfl, rfl, rfl, by decide +kernel, rfl, by decide +kernel, by decide +kernel⟩
theorem ok_panswer {f fLk fDo fSe fGi : Addr} {pSe : Addr} {fd fdLk fdDo fdSe fdGi : FuncData} (F : Fun K "answer" "Post.answer" sPostAnswer f fd) (TP : TxP K mg CP) (TQ : TxQ K mg CQ tCm tHd tAn)
    (M_look : Meth K CQ "look" fLk) (G_look : FnOk P w K mg base CX0 8 fLk fdLk ["self", "guest", "day"] (spLookP K CR CP CQ)) (b_look : Binds K fdLk ["self", "guest", "day"] [])
    (P_sent : PropOf K CQ "sent" pSe fSe) (G_sent : FnOk P w K mg base CX0 1 fSe fdSe ["self"] (spSent K CR CP CQ)) (b_sent : Binds K fdSe ["self"] [])
    (M_given : Meth K CQ "given" fGi) (G_given : FnOk P w K mg base CX0 1 fGi fdGi ["self"] (spGiven K CR CP CQ)) (b_given : Binds K fdGi ["self"] [])
    (M_do : Meth K CQ "do" fDo) (G_do : FnOk P w K mg base CX0 1 fDo fdDo ["self", "guest", "day", "event"] (spDo K CR CP CQ)) (b_do : Binds K fdDo ["self", "guest", "day", "event"] []) : FnOk P w K mg base CX0 9 f fd ["self", "guest", "day"] (spAnswerP K CR CP CQ) := by
  refine F.ok scPostAnswer (fun vs H Q E h => ?_) (fun cdv A outer s H vs Q E hr h => ?_)
  · obtain ⟨q, m, g, d, mm, i, l, rfl, _⟩ := h
    rfl
  · obtain ⟨a, m, g, d, mm, i, l, rfl, pa, hy, hv, hi, hk, q⟩ := h
    obtain ⟨dx, p, dd, xs, h1, h2, h3, h4⟩ := id pa
    refine ⟨_, pss_cons (ps_set (i := 3) scPostAnswer.nd rfl (.inl rfl) (pe_meth (E := E0) (pv 0) TQ.cl M_look G_look (hr.mono (by decide)) b_look .nil pass0 (pa_cons (pv 1) (pa_cons (pv 2) pa_nil))))
      (pss_cons (ps_if (PW.pt (pw_or (pt_cmpR op_isN (pv 3) pe_non (nomark _)) (pw_or1 (pt_cmpR op_notIn_seq (pe_ix ix_tup (pe_ix ix_tup (pe_prop (E := E0) (pv 0) TQ.cl P_sent G_sent (hr.mono (by decide)) b_sent .nil pass0 rfl) (pv 3) (fun _ _ => rfl)) pe_int (fun _ _ => rfl)) (pe_tup (pa_cons pe_str (pa_cons pe_str pa_nil))) (by rfl))))) (pss_one ps_never) pss_nil)
      (pss_cons (ps_expr (pe_meth (E := E0) (pv 0) TQ.cl M_do G_do (hr.mono (by decide)) b_do .nil pass0 (pa_cons (pv 1) (pa_cons (pv 2) (pa_cons (pe_glob (v := .str "answer") rfl TQ.g_ANSWERING ⟨_, rfl⟩) pa_nil)))))
      (pss_one (ps_ret (pe_op op_sub (pe_callB call_len_seq (by rfl) TP.n_len (by decide +kernel) (pa_cons (pe_meth0 (E := E0) (pv 0) TQ.cl M_given G_given (hr.mono (by decide)) b_given .nil pass0) pa_nil)) pe_int))))), ?_⟩
    have hl := hy.l
    refine Evl.q_asg (v := ov mm.view) (fun H1 e1 Q1 q1 => ⟨_, rfl, a, dx, _, rfl, e1 _ _ h1, rfl, _, rfl, _, rfl, a, m, g, d, mm, rfl, pa.ex e1, hy, fun H2 e2 => q1 H2 e2⟩) fun H1 e1 => ?_
    rw [hv]
    refine Evl.q_when (b := false) (Evl.et_is (Evl.et_or (a := false) (b := false) (Evl.et_is (Evl.et_test (Evl.ev_op (Evl.ev_var rfl) Evl.ev_c rv_isN)) rfl) (fun _ => Evl.et_test (Evl.ev_is (Evl.ev_niU (x := .str l.1) (xs := (["ask", "day"] : List Str).map V.str) ?_ (Evl.eu_tup (Evl.ea_cons Evl.ev_c (Evl.ea_cons Evl.ev_c Evl.ea_nil)) (by show 2 ≤ 100000; decide)) rfl (flat_strs _)) (by
      rw [inV_strs, decide_eq_true hk]
      rfl)))) rfl) (fun z => nomatch z) (fun _ H2 e2 => ?_)
    · intro H2 e2 Q2 q2
      refine sent_go (pa.ex e1) (by omega) (Evl.ev_var rfl) H2 e2 _ fun t ys H3 e3 st sa => ?_
      have ls := paired_len sa
      have hi2 := (List.getElem?_eq_some_iff.mp hi).1
      obtain ⟨x, hx⟩ : ∃ x, ys[i]? = some x := ⟨_, List.getElem?_eq_getElem (by omega)⟩
      obtain ⟨u, l', rfl, hl', hu⟩ := tups_at (f := fun l : L3 => [.str l.1, ov l.2.1, .int l.2.2]) sa hx
      obtain rfl := Option.some.inj (hi.symm.trans hl')
      exact ⟨_, rfl, _, _, _, _, rfl, rfl, st, atI_nat hx, _, _, _, _, rfl, rfl, Evl.st_of hu, rfl, q2 H3 e3⟩
    refine q_do (x := ⟨some g, some d, "answer"⟩) (pa.ex (e1.trans e2)) (by omega) (Evl.ev_var rfl) (Evl.ea_cons (Evl.ev_var rfl) (Evl.ea_cons (Evl.ev_var rfl) (Evl.ea_cons Evl.ev_c Evl.ea_nil))) fun H4 k4 p4 => ?_
    have hl2 : (m.do ⟨some g, some d, "answer"⟩).ds.length ≤ 4500 := by
      show (m.ds ++ [_]).length ≤ 4500
      rw [List.length_append]
      show m.ds.length + 1 ≤ 4500
      omega
    exact Evl.s_ret (v := .int ((m.do ⟨some g, some d, "answer"⟩).given.length - 1 : Int)) (Evl.ev_op (ev_lenGiven p4 hl2 (Evl.ev_var rfl)) Evl.ev_c Evl.rv_I0) fun H5 e5 => q H5 (((Kq.of (e1.trans e2)).trans k4).trans (Kq.of e5)) (p4.ex e5)
theorem ok_pheard {f fI fPl fDo fGi : Addr} {fd fdI fdPl fdDo fdGi : FuncData} (F : Fun K "heard" "Post.heard" sPostHeard f fd) (TP : TxP K mg CP) (TQ : TxQ K mg CQ tCm tHd tAn)
    (D_is_integer : Df K mg "is_integer" sIsInteger ["value"] fI fdI) (D_is_place : Df K mg "is_place" sIsPlace ["value", "many"] fPl fdPl)
    (M_given : Meth K CQ "given" fGi) (G_given : FnOk P w K mg base CX0 1 fGi fdGi ["self"] (spGiven K CR CP CQ)) (b_given : Binds K fdGi ["self"] [])
    (M_do : Meth K CQ "do" fDo) (G_do : FnOk P w K mg base CX0 1 fDo fdDo ["self", "guest", "day", "event"] (spDo K CR CP CQ)) (b_do : Binds K fdDo ["self", "guest", "day", "event"] []) : FnOk P w K mg base CX0 3 f fd ["self", "number"] (spHeardP K CR CP CQ) := by
  have G_is_place : FnOk P w K mg base CX0 2 fPl fdPl ["value", "many"] spIsPlace := ok_is_place D_is_place.F TP D_is_integer
  refine F.ok scPostHeard (fun vs H Q E h => ?_) (fun cdv A outer s H vs Q E hr h => ?_)
  · obtain ⟨q, m, n, l, rfl, _⟩ := h
    rfl
  · obtain ⟨a, m, n, l, rfl, pa, hn, hp, hl, q⟩ := h
    have hu65 : (A.deeper (envOfC "Post.heard" (defScope sPostHeard) s.heap.objs.size f cdv)).units + 65 < cLine := by
      have := hr.un
      omega
    refine ⟨_, pss_cons (ps_set (i := 2) scPostHeard.nd rfl (.inl rfl) (pe_meth0 (E := E0) (pv 0) TQ.cl M_given G_given (hr.mono (by decide)) b_given .nil pass0))
      (pss_cons (ps_if (pt_not (pt_val (pe_call G_is_place (hr.mono (by decide)) rfl D_is_place.g D_is_place.F.kp D_is_place.b .nil pass0 (pa_cons (pv 1) (pa_cons (pe_callB call_len_seq (by rfl) TP.n_len (by decide +kernel) (pa_cons (pv 2) pa_nil)) pa_nil))))) (pss_one ps_never) pss_nil)
      (pss_cons (ps_asg (pe_ix ix_list (pv 2) (pv 1) (fun _ _ => rfl)) (pg_tup (by rfl) (pgs_cons (pg_name (i := 3) scPostHeard.nd rfl (Or.inl rfl)) (pgs_cons (pg_name (i := 4) scPostHeard.nd rfl (Or.inl rfl)) pgs_nil))))
      (pss_cons (ps_set (i := 5) scPostHeard.nd rfl (.inl rfl) (pe_bm PySem.F.plainAttrs_list PySem.F.slot_list_count PySem.F.type_list_count (mt_countD hu65) (pe_slice sl_list (pv 2) po_none (po_some (pv 1))) (pa_cons (pe_tup (pa_cons (pv 3) (pa_cons (pv 4) pa_nil))) pa_nil)))
      (pss_one (ps_expr (pe_meth (E := E0) (pv 0) TQ.cl M_do G_do (hr.mono (by decide)) b_do .nil pass0 (pa_cons (pv 3) (pa_cons (pv 4) (pa_cons (pe_joined (.cons (pe_fmt (pe_glob (v := .str "heard ") rfl TQ.g_HEARD ⟨_, rfl⟩)) (.cons (pe_fmt (pv 5)) .nil))) pa_nil))))))))), ?_⟩
    refine q_put (given_go pa (by omega) (Evl.ev_var rfl) H (Ex.refl _) _ fun L xs H1 e1 nL hL ga => ?_)
    have lg := paired_len ga
    have hn2 := (List.getElem?_eq_some_iff.mp hn).1
    have lgv : m.given.length ≤ m.ds.length := by
      unfold PoM.given
      rw [List.length_map]
      exact List.length_filter_le _ _
    refine Evl.q_when (b := false) (Evl.et_is (Evl.et_not (a := true) (Evl.et_B (ev_call (v := .bl true) (Evl.ea_cons (Evl.ev_var rfl) (Evl.ea_cons (Evl.ev_len (Evl.ev_var rfl) (Evl.sq_of hL)) Evl.ea_nil)) fun H3 e3 Q1 q1 => ⟨(n : Int), (xs.length : Int), rfl, by
      rw [decide_eq_true (show (0 : Int) ≤ (n : Int) by omega), decide_eq_true (show (n : Int) < (xs.length : Int) by omega)]
      exact q1 H3 (Ex.refl _)⟩))) rfl) (fun z => nomatch z) (fun _ H2 e2 => ?_)
    obtain ⟨x, hx⟩ : ∃ x, xs[n]? = some x := ⟨_, List.getElem?_eq_getElem (by omega)⟩
    obtain ⟨u, l', rfl, hl', hu⟩ := tups_at (f := fun l : Option Str × Option Nat => [gv l.1, ov l.2]) ga hx
    obtain rfl := Option.some.inj (hn.symm.trans hl')
    refine ⟨_, rfl, _, rfl, _, _, _, _, rfl, rfl, Evl.sq_of (e2 _ _ hL), atI_nat hx, u, _, rfl, Evl.st_of (e2 _ _ hu), rfl, _, _, rfl, _, _, rfl, rfl, ?_⟩
    have ga2 := ga.keep fun _ _ z => e2 _ _ z
    have mg2 := given_plain hp
    have lm := mg2 l (List.mem_of_getElem? hn)
    refine nx_go ?_
    refine Evl.q_asg (v := .int ((m.given.take n).countP (fun p => decide (p = l)) : Nat)) (fun H3 e3 Q3 q3 => ?_) fun H3 e3 => ?_
    · refine (Evl.el_sl (xs := xs) (Evl.ev_var rfl) Evl.eo_none (Evl.eo_some (Evl.ev_var rfl)) (Evl.sq_of ((e2.trans e3) _ _ hL))) H3 (Ex.refl _) _ fun t H4 nt e4 ht => ⟨.inl ⟨rfl, _, Evl.sq_of ht⟩, _, rfl, _, rfl, size_of (by show 2 ≤ 100000; decide), fun v nv => ?_⟩
      rw [cut_head] at ht
      have e5 : Ex H4 (upd H4 v (.tup [gv l.1, ov l.2])) := Ex.new nv
      have g5 := given_take2 ((ga2.keep fun _ _ z => (e3.trans e4) _ _ z).keep fun _ _ z => e5 _ _ z) n
      refine ⟨t, _, _, pD l, (m.given.take n).map pD, rfl, rfl, Evl.sq_of (e5 _ _ ht), dpa_given g5, .tup (Evl.st_of upd_same) (.cons (dp_gv _) (.cons (dp_ov _) .nil)), ?_, (gd_pair lm).shaped (by decide), ?_⟩
      · have gg : ∀ d ∈ (m.given.take n).map pD, GD d 1 := fun d hd => by
          obtain ⟨l', hl', rfl⟩ := List.mem_map.mp hd
          exact gd_pair (mg2 l' (List.mem_of_mem_take hl'))
        obtain ⟨z1, z2, z3⟩ := GD.all gg
        show (PyData.canLayAll0 _ && decide (PyData.depthAll _ + 1 ≤ 64)) = true
        rw [z1, decide_eq_true (Nat.le_trans (Nat.succ_le_succ z2) (by decide))]
        rfl
      · have ec : ((m.given.take n).map pD).countP (fun z => PyData.eqv z (pD l)) = (m.given.take n).countP fun p => decide (p = l) := by
          rw [List.countP_map]
          exact List.countP_congr fun x _ => by
            show PyData.eqv (pD x) (pD l) = true ↔ _
            rw [eqv_pair]
        rw [ec]
        exact q3 _ (e4.trans e5)
    have lc : (strI ((m.given.take n).countP fun p => decide (p = l))).length ≤ 10 := strI_len (Nat.le_trans List.countP_le_length (by rw [List.length_take]; omega))
    have e03 := (e1.trans e2).trans e3
    have lk : ((m.given.take n).countP fun p => decide (p = l)) ≤ 1000 := Nat.le_trans List.countP_le_length (by rw [List.length_take]; omega)
    refine s_do (x := ⟨l.1, l.2, evHeard ((m.given.take n).countP fun p => decide (p = l))⟩) (pa.ex e03) (by omega) (Evl.ev_var rfl) (Evl.ea_cons (Evl.ev_var rfl) (Evl.ea_cons (Evl.ev_var rfl) (Evl.ea_cons (ev_js2 (y := "heard ") (z := strI ((m.given.take n).countP fun p => decide (p = l))) (ev_fmtS Evl.ev_c (by decide +kernel)) (ev_fmtI (Evl.ev_var rfl) (Nat.lt_of_lt_of_le (log_small (k := 20) (by simp; omega) (by decide)) (by decide))) (Nat.le_trans (Nat.add_le_add (show ("heard " : Str).length ≤ 6 by decide +kernel) lc) (by decide))) Evl.ea_nil))) fun H4 k4 p4 => q H4 ((Kq.of e03).trans k4) p4
def idxOf (ls : List (Option Str × Option Nat)) (pr : Option Str × Option Nat) : List Nat := (ls.zipIdx.filter fun p => decide (p.1 = pr)).map Prod.snd
theorem idx_take (ls : List (Option Str × Option Nat)) (pr x : Option Str × Option Nat) (i : Nat) (h : ls[i]? = some x) : idxOf (ls.take (i + 1)) pr = idxOf (ls.take i) pr ++ if x = pr then [i] else [] := by
  have hi := (List.getElem?_eq_some_iff.mp h).1
  unfold idxOf
  rw [List.take_add_one, h]
  show List.map _ (List.filter _ (List.zipIdx (ls.take i ++ [x]))) = _
  rw [List.zipIdx_append, List.filter_append, List.map_append]
  congr 1
  rw [show [x].zipIdx (0 + (ls.take i).length) = [(x, i)] by
    rw [List.length_take, Nat.min_eq_left (by omega), Nat.zero_add]
    rfl]
  by_cases e : x = pr
  · rw [List.filter_cons_of_pos (by simpa using e), if_pos e]
    rfl
  · rw [List.filter_cons_of_neg (by simpa using e), if_neg e]
    rfl
theorem idx_len (ls : List (Option Str × Option Nat)) (pr : Option Str × Option Nat) : (idxOf ls pr).length ≤ ls.length := by
  unfold idxOf
  rw [List.length_map]
  exact Nat.le_trans (List.length_filter_le _ _) (by rw [List.length_zipIdx]; exact Nat.le_refl _)
def CountedFor (m : PoM) (g : Str) (d : Nat) (mm : CM) (r : Option Nat) : Prop := match mm.counted with
  | none => r = none
  | some c => ∃ j, (idxOf m.given (some g, some d))[c]? = some j ∧ r = some j
def spCountedP (K : PySem.W.Frag) (CR CP CQ : Addr) : Sp := fun vs H Q _ => ∃ (q : Addr) (m : PoM) (g : Str) (d : Nat) (mm : CM) (r : Option Nat), vs = [.ref q, .str g, .int (d : Int)] ∧ PostAt K CR CP CQ H q m ∧ Plays m g d mm ∧ PlainG m ∧ PyData.canLay0 (.str g) = true ∧ CountedFor m g d mm r ∧ ∀ H', Ex H H' → Q (ov r) H'
end
end Ov


namespace Ov
open PySem PySem.Spec PyProof.Rows L2
open Evl (pss_cut tCut Ex Ev EvT EvL EvA EvU)
/-! ### a post under way: all that stood before it stays -/
structure At (K : PySem.W.Frag) (CR CP CQ : Addr) (B : Hp) (q : Addr) (m : PoM) (H : Hp) : Prop where
  pa : PostAt K CR CP CQ H q m
  ex : Ex B H
  nq : B q = none
theorem At.kq {K : PySem.W.Frag} {CR CP CQ q : Addr} {B H H' : Hp} {m m' : PoM} (h : At K CR CP CQ B q m H) (k : Kq q H H') (p : PostAt K CR CP CQ H' q m') : At K CR CP CQ B q m' H' := ⟨p, fun x o hx => k x o (ne_of_none hx h.nq) (ne_of_none hx h.nq) (h.ex x o hx), h.nq⟩
theorem At.ext {K : PySem.W.Frag} {CR CP CQ q : Addr} {B H H' : Hp} {m : PoM} (h : At K CR CP CQ B q m H) (e : Ex H H') : At K CR CP CQ B q m H' := ⟨h.pa.ex e, h.ex.trans e, h.nq⟩
/-- checks by reckoning -/
def playsB (m : PoM) (g : Str) (d : Nat) : Option CM := if (nameB g && (decide (d < m.days) && (decide (m.ds.length ≤ 1000) && (m.ds.all (fun x => decide (x.e.length ≤ 1000)) && (m.rs.all ruleB && (decide (m.rs.length ≤ 10) && (decide ((m.weave g d).length ≤ 100) && (m.weave g d).all evB))))))) = true then (CM.start m.ks m.rs).goAll (m.weave g d) else none
theorem playsB_ok {m : PoM} {g : Str} {d : Nat} {mm : CM} (h : playsB m g d = some mm) : Plays m g d mm := by
  unfold playsB at h
  split at h
  · rename_i c
    simp only [Bool.and_eq_true, decide_eq_true_eq, List.all_eq_true] at c
    obtain ⟨c1, c2, c3, c4, c5, c6, c7, c8⟩ := c
    exact ⟨c1, c2, by omega, c4, fun r hr => ruleB_ok (c5 r hr), by omega, c7, fun z hz => evB_ok (c8 z hz), h⟩
  · cases h
def viewB (m : PoM) (g : Str) (d : Nat) : Option (Option Nat) := (playsB m g d).map CM.view
def goalsB (m : PoM) (g : Str) (d : Nat) : Option (List Str) := (playsB m g d).map CM.goalsT
def countB (m : PoM) (g : Str) (d : Nat) : Option (Option Nat) := (playsB m g d).bind fun mm => match mm.counted with
  | none => some none
  | some c => ((idxOf m.given (some g, some d))[c]?).map some
theorem viewB_ok {m : PoM} {g : Str} {d : Nat} {r : Option Nat} (h : viewB m g d = some r) : ∃ mm, Plays m g d mm ∧ mm.view = r := by
  obtain ⟨mm, h1, h2⟩ := Option.map_eq_some_iff.mp h
  exact ⟨mm, playsB_ok h1, h2⟩
theorem goalsB_ok {m : PoM} {g : Str} {d : Nat} {l : List Str} (h : goalsB m g d = some l) : ∃ mm, Plays m g d mm ∧ mm.goalsT = l := by
  obtain ⟨mm, h1, h2⟩ := Option.map_eq_some_iff.mp h
  exact ⟨mm, playsB_ok h1, h2⟩
theorem countB_ok {m : PoM} {g : Str} {d : Nat} {r : Option Nat} (h : countB m g d = some r) : ∃ mm, Plays m g d mm ∧ CountedFor m g d mm r := by
  obtain ⟨mm, h1, h2⟩ := Option.bind_eq_some_iff.mp h
  refine ⟨mm, playsB_ok h1, ?_⟩
  unfold CountedFor
  cases e : mm.counted with
  | none =>
    rw [e] at h2
    exact (Option.some.inj h2).symm
  | some c =>
    rw [e] at h2
    obtain ⟨j, h3, h4⟩ := Option.map_eq_some_iff.mp h2
    exact ⟨j, h3, h4.symm⟩
def plainB (m : PoM) : Bool := m.ds.all fun x => match x.g with
  | none => true
  | some z => PyData.canLay0 (.str z)
theorem plainB_ok {m : PoM} (h : plainB m = true) : PlainG m := fun x hx z e => by
  have := List.all_eq_true.mp h x hx
  rw [e] at this
  exact this
section
variable {K : PySem.W.Frag} {CR CP CQ CD q : Addr} {B : Hp} {m m' m2 : PoM} {σ : L2.St} {te tb : TE} {tr : TA} {t u : TT} {v : V} {D : Ends} {tu tz : TS} {dvs vs : List V} {g : Str} {d : Nat} {mm : CM}
def EvM (K : PySem.W.Frag) (CR CP CQ : Addr) (B : Hp) (q : Addr) (te : TE) (σ : L2.St) (m m' : PoM) (v : V) : Prop := ∀ H, At K CR CP CQ B q m H → ∀ Q : VK, (∀ H', At K CR CP CQ B q m' H' → Q v H') → te σ H Q
def EvMT (K : PySem.W.Frag) (CR CP CQ : Addr) (B : Hp) (q : Addr) (te : TE) (σ : L2.St) (m : PoM) (xs : List V) : Prop := ∀ H, At K CR CP CQ B q m H → ∀ Q : VK, (∀ t H', At K CR CP CQ B q m H' → SqT K H' t xs → Q (.ref t) H') → te σ H Q
def Go (K : PySem.W.Frag) (CR CP CQ : Addr) (B : Hp) (q : Addr) (t : TT) (σ : L2.St) (m m' : PoM) : Prop := ∀ H, At K CR CP CQ B q m H → ∀ R : Bool → Hp → Prop, (∀ H', At K CR CP CQ B q m' H' → R false H') → t σ H R
theorem evm_meth {sp : Sp} {x : Str} (hq : σ[3]? = some (some (.ref q))) (n : x ≠ ("plan" : Str) ∧ x ≠ ("days" : Str) ∧ x ≠ ("deeds" : Str)) (ha : ∀ H, EvA tr σ H vs) (hs : ∀ H, At K CR CP CQ B q m H → ∀ Q : VK, (∀ H', At K CR CP CQ B q m' H' → Q v H') → sp (.ref q :: (vs ++ dvs)) H Q E0) : EvM K CR CP CQ B q (tMeth CQ x sp dvs E0 (tVar 3) tr) σ m m' v := fun H h Q k => by
  obtain ⟨dx, fs, h1, h2⟩ := h.pa.fld
  exact ⟨_, hq, q, dx, fs, rfl, h1, h2 x n.1 n.2.1 n.2.2, ha H H (Ex.refl _) _ fun H1 e1 => hs H1 (h.ext e1) Q k⟩
theorem evm_methT {sp : Sp} {x : Str} {xs : List V} (hq : σ[3]? = some (some (.ref q))) (n : x ≠ ("plan" : Str) ∧ x ≠ ("days" : Str) ∧ x ≠ ("deeds" : Str)) (ha : ∀ H, EvA tr σ H vs) (hs : ∀ H, At K CR CP CQ B q m H → ∀ Q : VK, (∀ t H', At K CR CP CQ B q m H' → SqT K H' t xs → Q (.ref t) H') → sp (.ref q :: (vs ++ dvs)) H Q E0) : EvMT K CR CP CQ B q (tMeth CQ x sp dvs E0 (tVar 3) tr) σ m xs := fun H h Q k => by
  obtain ⟨dx, fs, h1, h2⟩ := h.pa.fld
  exact ⟨_, hq, q, dx, fs, rfl, h1, h2 x n.1 n.2.1 n.2.2, ha H H (Ex.refl _) _ fun H1 e1 => hs H1 (h.ext e1) Q k⟩
theorem evm_send {k : Str} {dy : Option Nat} {n : Int} (hq : σ[3]? = some (some (.ref q))) (ha : ∀ H, EvA tr σ H vs) (hv : vs ++ dvs = [.str k, ov dy]) (hk : k ∈ lettersL) (hd : if wholeKind k = true then dy = none else ∃ j, dy = some j ∧ j < m.days) (hl : m.ds.length ≤ 4000) (hn : ((m.do ⟨none, dy, k⟩).sent.length - 1 : Int) = n) : EvM K CR CP CQ B q (tMeth CQ "send" (spSendP K CR CP CQ) dvs E0 (tVar 3) tr) σ m (m.do ⟨none, dy, k⟩) (.int n) :=
  evm_meth hq (by decide) ha fun H h Q k2 => ⟨q, m, k, dy, by rw [hv], h.pa, hk, hd, hl, fun H' kq p => by
    rw [hn]
    exact k2 H' (h.kq kq p)⟩
theorem evm_come {i : Nat} {l : L3} (hq : σ[3]? = some (some (.ref q))) (ha : ∀ H, EvA tr σ H [.str g, .int (i : Int)]) (hn : nameB g = true) (hi : m.sent[i]? = some l) (hl : m.ds.length ≤ 4000) (hs : i ≤ 1000) : EvM K CR CP CQ B q (tMeth CQ "come" (spComeP K CR CP CQ) [] E0 (tVar 3) tr) σ m (m.do ⟨some g, l.2.1, evCome i⟩) .non :=
  evm_meth hq (by decide) ha fun H h Q k2 => ⟨q, m, g, i, l, rfl, h.pa, hn, hi, hl, hs, fun H' kq p => k2 H' (h.kq kq p)⟩
theorem evm_look {r : Option Nat} (hq : σ[3]? = some (some (.ref q))) (ha : ∀ H, EvA tr σ H [.str g, .int (d : Int)]) (hv : viewB m g d = some r) : EvM K CR CP CQ B q (tMeth CQ "look" (spLookP K CR CP CQ) [] E0 (tVar 3) tr) σ m m (ov r) := by
  obtain ⟨mm, h1, rfl⟩ := viewB_ok hv
  exact evm_meth hq (by decide) ha fun H h Q k2 => ⟨q, m, g, d, mm, rfl, h.pa, h1, fun H' e => k2 H' (h.ext e)⟩
theorem evm_hand {o : Str} {i : Nat} {l : L3} (hq : σ[3]? = some (some (.ref q))) (ha : ∀ H, EvA tr σ H [.str g, .int (d : Int), .str o]) (hv : viewB m g d = some (some i)) (hn : nameB o = true) (hi : m.sent[i]? = some l) (hs : i ≤ 1000) : EvM K CR CP CQ B q (tMeth CQ "hand" (spHandP K CR CP CQ) [] E0 (tVar 3) tr) σ m (m.do ⟨some o, l.2.1, evCome i⟩) .non := by
  obtain ⟨mm, h1, h2⟩ := viewB_ok hv
  exact evm_meth hq (by decide) ha fun H h Q k2 => ⟨q, m, g, d, o, mm, i, l, rfl, h.pa, h1, h2, hn, hi, hs, fun H' kq p => k2 H' (h.kq kq p)⟩
theorem evm_answer {i : Nat} {l : L3} {n : Int} (hq : σ[3]? = some (some (.ref q))) (ha : ∀ H, EvA tr σ H [.str g, .int (d : Int)]) (hv : viewB m g d = some (some i)) (hi : m.sent[i]? = some l) (hk : l.1 ∈ (["ask", "day"] : List Str)) (hn : ((m.do ⟨some g, some d, "answer"⟩).given.length - 1 : Int) = n) : EvM K CR CP CQ B q (tMeth CQ "answer" (spAnswerP K CR CP CQ) [] E0 (tVar 3) tr) σ m (m.do ⟨some g, some d, "answer"⟩) (.int n) := by
  obtain ⟨mm, h1, h2⟩ := viewB_ok hv
  exact evm_meth hq (by decide) ha fun H h Q k2 => ⟨q, m, g, d, mm, i, l, rfl, h.pa, h1, h2, hi, hk, fun H' kq p => by
    rw [hn]
    exact k2 H' (h.kq kq p)⟩
theorem evm_heard {n : Nat} {l : Option Str × Option Nat} (hq : σ[3]? = some (some (.ref q))) (ha : ∀ H, EvA tr σ H [.int (n : Int)]) (hi : m.given[n]? = some l) (hp : plainB m = true) (hl : m.ds.length ≤ 1000) : EvM K CR CP CQ B q (tMeth CQ "heard" (spHeardP K CR CP CQ) [] E0 (tVar 3) tr) σ m (m.do ⟨l.1, l.2, evHeard ((m.given.take n).countP fun p => decide (p = l))⟩) .non :=
  evm_meth hq (by decide) ha fun H h Q k2 => ⟨q, m, n, l, rfl, h.pa, hi, plainB_ok hp, hl, fun H' kq p => k2 H' (h.kq kq p)⟩
theorem evm_counted {r : Option Nat} (hq : σ[3]? = some (some (.ref q))) (ha : ∀ H, EvA tr σ H [.str g, .int (d : Int)]) (hv : countB m g d = some r) (hp : plainB m = true) (hg : PyData.canLay0 (.str g) = true) : EvM K CR CP CQ B q (tMeth CQ "counted_for" (spCountedP K CR CP CQ) [] E0 (tVar 3) tr) σ m m (ov r) := by
  obtain ⟨mm, h1, h2⟩ := countB_ok hv
  exact evm_meth hq (by decide) ha fun H h Q k2 => ⟨q, m, g, d, mm, r, rfl, h.pa, h1, plainB_ok hp, hg, h2, fun H' e => k2 H' (h.ext e)⟩
theorem evm_undo (hq : σ[3]? = some (some (.ref q))) (h0 : 0 < m.ds.length) (hl : m.ds.length ≤ 4000) : EvM K CR CP CQ B q (tMeth CQ "undo" (spUndo K CR CP CQ) [] E0 (tVar 3) tNil) σ m { m with ds := m.ds.dropLast } (.bl true) :=
  evm_meth hq (by decide) (fun H => Evl.ea_nil) fun H h Q k2 => ⟨q, m, rfl, h.pa, h0, hl, fun H' kq p => k2 H' (h.kq kq p)⟩
theorem evm_len (hq : σ[3]? = some (some (.ref q))) (hl : m.ds.length ≤ 4000) : EvM K CR CP CQ B q (tCB (rLenI CQ (spPostLen K CR CP CQ) E0) (tCons (tVar 3) tNil)) σ m m (.int (m.ds.length : Int)) := fun H h Q k => by
  obtain ⟨dx, fs, h1, _⟩ := h.pa.fld
  exact ⟨_, hq, q, dx, fs, rfl, h1, q, m, rfl, h.pa, fun H' e => ⟨m.ds.length, rfl, by omega, k H' (h.ext e)⟩⟩
theorem evmt_goals {l : List Str} (hq : σ[3]? = some (some (.ref q))) (ha : ∀ H, EvA tr σ H [.str g, .int (d : Int)]) (hv : goalsB m g d = some l) : EvMT K CR CP CQ B q (tMeth CQ "goals_for" (spGoalsP K CR CP CQ) [] E0 (tVar 3) tr) σ m (l.map V.str) := by
  obtain ⟨mm, h1, rfl⟩ := goalsB_ok hv
  exact evm_methT hq (by decide) ha fun H h Q k2 => ⟨q, m, g, d, mm, rfl, h.pa, h1, fun t H' e st => k2 t H' (h.ext e) st⟩
theorem evmt_weave {l : List Str} (hq : σ[3]? = some (some (.ref q))) (ha : ∀ H, EvA tr σ H [.str g, .int (d : Int)]) (hn : nameB g = true) (hd : d < m.days) (hl : m.ds.length ≤ 4000) (he : m.ds.all (fun x => decide (x.e.length ≤ 1000)) = true) (hw : m.weave g d = l) : EvMT K CR CP CQ B q (tMeth CQ "weaving_for" (spWeave K CR CP CQ) [] E0 (tVar 3) tr) σ m (l.map V.str) :=
  evm_methT hq (by decide) ha fun H h Q k2 => ⟨q, m, g, d, rfl, h.pa, hn, hd, by omega, fun x hx => of_decide_eq_true (List.all_eq_true.mp he x hx), fun t H' e st => k2 t H' (h.ext e) (by
    rw [← hw]
    exact st)⟩
theorem evmt_sl {xs ys : List V} {tl th : TO} {lo hi : Option Int} (h : EvMT K CR CP CQ B q te σ m xs) (h1 : ∀ H, Evl.EvO tl σ H lo) (h2 : ∀ H, Evl.EvO th σ H hi) (e : cutV xs lo hi = ys) : EvMT K CR CP CQ B q (tSl (rSlA K) te tl th) σ m ys := fun H ha Q k =>
  h H ha _ fun t H1 a1 st => h1 H1 H1 (Ex.refl _) _ fun H2 e2 => h2 H2 H2 (Ex.refl _) _ fun H3 e3 => by
    have st3 := Evl.ex_t (e2.trans e3) st
    have a3 := a1.ext (e2.trans e3)
    refine ⟨t, xs, rfl, st3, fun w => k t H3 a3 ?_, fun _ p np => k p _ (a3.ext (Ex.new np)) (by
      rw [e]
      exact Evl.st_of upd_same)⟩
    rw [← e]
    unfold cutV
    rw [w.1, w.2, List.drop_zero, Nat.sub_zero, List.take_length]
    exact st3
/-! ### tests that are not met -/
theorem go_ne {dd : PyData} {n : Nat} (h : EvM K CR CP CQ B q te σ m m' v) (hd : ∀ H, Dp K H v dd) (gd : GD dd n) (hn : n ≤ 64) : Go K CR CP CQ B q (tTest (tOp (rNeD K) te (tC v))) σ m m' := fun H ha R k =>
  h H ha _ fun H' a' => ⟨dd, dd, hd H', hd H', gd.shaped hn, gd.shaped hn, by
    rw [gd.same]
    exact ⟨false, rfl, k H' a'⟩⟩
theorem go_int {n : Int} (h : EvM K CR CP CQ B q te σ m m' (.int n)) : Go K CR CP CQ B q (tTest (tOp (rNeD K) te (tC (V.int n)))) σ m m' := go_ne h (fun _ => .int n) (GD.int n 0) (by decide)
theorem go_notN (h : EvM K CR CP CQ B q te σ m m' .non) : Go K CR CP CQ B q (tTest (tOp (fun x y H Q => y = V.non ∧ Q (V.bl (!decide (x = V.non))) H) te (tC V.non))) σ m m' := fun H ha R k => h H ha _ fun H' a' => ⟨rfl, false, rfl, k H' a'⟩
theorem go_notT (h : EvM K CR CP CQ B q te σ m m' (.bl true)) : Go K CR CP CQ B q (tTest (tOp rNotB te (tC (V.bl true)))) σ m m' := fun H ha R k => h H ha _ fun H' a' => ⟨true, true, rfl, rfl, false, rfl, k H' a'⟩
theorem go_strs {l : List Str} (h : EvMT K CR CP CQ B q te σ m (l.map V.str)) (hb : ∀ H, EvU tb σ H (l.map V.str)) (hp : l.all (fun x => PyData.canLay0 (.str x)) = true) : Go K CR CP CQ B q (tTest (tOp (rNeD K) te tb)) σ m m := fun H ha R k =>
  h H ha _ fun t H1 a1 st => hb H1 H1 (Ex.refl _) _ fun t2 H2 _ e2 h2 => by
    have gd : GD (.tuple (l.map PyData.str)) 1 := GD.strs fun x hx => List.all_eq_true.mp hp x hx
    exact ⟨_, _, .tup (Evl.ex_t e2 st) (dp_strs _), .tup (Evl.st_of h2) (dp_strs _), gd.shaped (by decide), gd.shaped (by decide), by
      rw [gd.same]
      exact ⟨false, rfl, k H2 (a1.ext e2)⟩⟩
theorem go_or (h1 : Go K CR CP CQ B q t σ m m') (h2 : Go K CR CP CQ B q u σ m' m2) : Go K CR CP CQ B q (tOr t u) σ m m2 := fun H ha R k => h1 H ha _ fun H' a' => iteF (h2 H' a' R k)
theorem q_go {H : Hp} (h : Go K CR CP CQ B q t σ m m') (ha : At K CR CP CQ B q m H) (k : ∀ H', At K CR CP CQ B q m' H' → tz D σ H') : tSeq (tIfS t tu tNext) tz D σ H := h H ha _ fun H' a' => iteF (k H' a')
theorem q_dropM {H : Hp} (h : EvM K CR CP CQ B q te σ m m' v) (ha : At K CR CP CQ B q m H) (k : ∀ H', At K CR CP CQ B q m' H' → tz D σ H') : tSeq (tDrop te) tz D σ H := h H ha _ fun H' a' => k H' a'
end
end Ov


namespace Ov
open PySem PySem.Spec PyProof.Rows L2
open Evl (pss_cut tCut Ex Ev EvT EvL EvA EvU)
/-! ### posts: each guest's day goes on with each deed -/
namespace CM
variable {m m2 : CM} {z : Str}
theorem goAll_snoc : ∀ {zs : List Str} {m mF : CM} {z : Str}, m.goAll zs = some mF → m.goAll (zs ++ [z]) = mF.goOn z
  | [], m, mF, z, h => by
    cases Option.some.inj h
    show (m.goOn z).bind (fun m2 => CM.goAll m2 []) = m.goOn z
    cases m.goOn z <;> rfl
  | a :: r, m, mF, z, h => by
    obtain ⟨m2, h1, h2⟩ := Option.bind_eq_some_iff.mp h
    show (m.goOn a).bind (fun m2 => m2.goAll (r ++ [z])) = _
    rw [h1]
    exact goAll_snoc h2
/-- what stays while the goals are judged and what is shown is looked at -/
structure SameC (m m2 : CM) : Prop where
  ks : m2.ks = m.ks
  rs : m2.rs = m.rs
  lt : m2.letters = m.letters
  nw : m2.newest = m.newest
  w : m2.whole = m.whole
  o : m2.own = m.own
  an : m2.answers = m.answers
  ct : m2.counted = m.counted
  cm : m2.came = m.came
theorem SameC.trans {m1 m2 m3 : CM} (a : SameC m1 m2) (b : SameC m2 m3) : SameC m1 m3 := ⟨b.1.trans a.1, b.2.trans a.2, b.3.trans a.3, b.4.trans a.4, b.5.trans a.5, b.6.trans a.6, b.7.trans a.7, b.8.trans a.8, b.9.trans a.9⟩
theorem addG_same (b : Bool) (g : Str) : SameC m (m.addG b g) ∧ (m.addG b g).shows = m.shows := by
  unfold CM.addG
  split
  · split
    · exact ⟨⟨rfl, rfl, rfl, rfl, rfl, rfl, rfl, rfl, rfl⟩, rfl⟩
    · exact ⟨⟨rfl, rfl, rfl, rfl, rfl, rfl, rfl, rfl, rfl⟩, rfl⟩
  · exact ⟨⟨rfl, rfl, rfl, rfl, rfl, rfl, rfl, rfl, rfl⟩, rfl⟩
theorem judge_same (h : Option Nat) : SameC m (m.judge h) ∧ (m.judge h).shows = m.shows := by
  unfold CM.judge
  refine ⟨((((addG_same _ _).1.trans (addG_same _ _).1).trans (addG_same _ _).1).trans (addG_same _ _).1).trans (addG_same _ _).1, ?_⟩
  rw [(addG_same _ _).2, (addG_same _ _).2, (addG_same _ _).2, (addG_same _ _).2, (addG_same _ _).2]
theorem look_same : SameC m m.look ∧ m.look.shows = m.shows ++ [m.showing] := by
  unfold CM.look
  split
  · rename_i e
    exact ⟨⟨rfl, rfl, rfl, rfl, rfl, rfl, rfl, rfl, rfl⟩, rfl⟩
  · unfold CM.offed
    split
    · exact ⟨⟨rfl, rfl, rfl, rfl, rfl, rfl, rfl, rfl, rfl⟩, rfl⟩
    · exact ⟨⟨rfl, rfl, rfl, rfl, rfl, rfl, rfl, rfl, rfl⟩, rfl⟩
theorem SameC.showing (h : SameC m m2) : m2.showing = m.showing := by
  unfold CM.showing
  rw [h.o, h.w]
theorem SameC.kindAt (h : SameC m m2) (i : Nat) : m2.kindAt i = m.kindAt i := by
  unfold CM.kindAt
  rw [h.lt]
theorem goOn_same (h : m.goOn z = some m2) : ∃ x, m.act z = some x ∧ SameC x.1 m2 ∧ m2.view = m2.showing := by
  unfold CM.goOn at h
  obtain ⟨x, h1, rfl⟩ := Option.map_eq_some_iff.mp h
  have a := look_same (m := x.1.ruled x.2.1)
  have b := judge_same (m := (x.1.ruled x.2.1).look) x.2.2
  have r : SameC x.1 (x.1.ruled x.2.1) := ⟨rfl, rfl, rfl, rfl, rfl, rfl, rfl, rfl, rfl⟩
  have s := (r.trans a.1).trans b.1
  refine ⟨x, h1, s, ?_⟩
  unfold CM.view
  rw [b.2, a.2, List.getLastD_eq_getLast?, List.getLast?_concat, s.showing]
  rfl
theorem goOn_of {x : CM × Option Nat × Option Nat} (h : m.act z = some x) : ∃ m2, m.goOn z = some m2 ∧ SameC x.1 m2 ∧ m2.view = m2.showing := by
  have e : m.goOn z = some ((((x.1).ruled x.2.1).look).judge x.2.2) := by
    unfold CM.goOn
    rw [h]
    rfl
  refine ⟨_, e, ?_⟩
  obtain ⟨y, h1, h2⟩ := goOn_same e
  rw [h] at h1
  cases Option.some.inj h1
  exact h2
theorem come_same (i : Nat) : (m.come i).ks = m.ks ∧ (m.come i).rs = m.rs ∧ (m.come i).letters = m.letters ∧ (m.come i).answers = m.answers ∧ (∀ j, (m.come i).whole = some j → m.whole = some j ∨ j = i) ∧ (∀ j, (m.come i).own = some j → m.own = some j ∨ j = i) := by
  unfold CM.come CM.taken CM.wiped
  simp only
  split <;> (try split) <;> (try split) <;> refine ⟨rfl, rfl, rfl, rfl, fun j e => ?_, fun j e => ?_⟩ <;> first
    | exact .inl e
    | (cases e; exact .inr rfl)
    | cases e
theorem hear_same (a : Nat) : (m.hear a).ks = m.ks ∧ (m.hear a).rs = m.rs ∧ (m.hear a).letters = m.letters ∧ (m.hear a).answers = m.answers ∧ (m.hear a).whole = m.whole ∧ (m.hear a).own = m.own := by
  unfold CM.hear
  split <;> exact ⟨rfl, rfl, rfl, rfl, rfl, rfl⟩
end CM
/-! texts of events -/
theorem evCome_facts : ∀ i < 64, evB (evCome i) = true ∧ evCome i ∉ CM.deedsAll ∧ evCome i ≠ ("answer" : Str) ∧ (evCome i).length ≤ 1000 := by decide +kernel
theorem evHeard_facts : ∀ i < 64, evB (evHeard i) = true ∧ evHeard i ∉ CM.deedsAll ∧ evHeard i ≠ ("answer" : Str) ∧ (evHeard i).length ≤ 1000 ∧ Txt.startswith (evHeard i) "come " = false := by decide +kernel
theorem evCome_read : ∀ n < 48, ∀ i < n, readPlaceM (evCome i) "come " n = some i := by decide +kernel
theorem evHeard_read : ∀ n < 48, ∀ i < n, readPlaceM (evHeard i) "heard " n = some i := by decide +kernel
theorem read_none {z w : Str} {n : Nat} (h : Txt.startswith z w = false) : readPlaceM z w n = none := by
  unfold readPlaceM
  rw [if_neg (by rw [h]; exact Bool.false_ne_true)]
theorem answer_starts : Txt.startswith ("answer" : Str) "come " = false ∧ Txt.startswith ("answer" : Str) "heard " = false := by decide +kernel
theorem answer_facts : evB "answer" = true ∧ ("answer" : Str) ∉ CM.deedsAll ∧ ("answer" : Str).length ≤ 1000 := by decide +kernel
theorem deed_facts : ∀ k ∈ lettersL, evB k = true ∧ evB (("other " : Str) ++ k) = true ∧ k ∈ CM.deedsAll ∧ k ≠ ("answer" : Str) ∧ k ≠ ("other" : Str) ∧ CM.sentKind k = k ∧ k.length ≤ 1000 ∧ (wholeKind k = false → ("other " : Str) ++ k ∈ CM.deedsAll ∧ CM.sentKind (("other " : Str) ++ k) = k ∧ ("other " : Str) ++ k ≠ k) := by decide +kernel
/-! what a guest's day has to do with what was sent and given -/
def kindFor (l : L3) (d : Nat) : Str := if l.2.1 = none ∨ l.2.1 = some d then l.1 else "other"
def givenN (m : PoM) (g : Str) (d : Nat) : Nat := m.given.countP fun p => decide (p = (some g, some d))
structure Link (m : PoM) (g : Str) (d : Nat) (mm : CM) : Prop where
  go : (CM.start m.ks m.rs).goAll (m.weave g d) = some mm
  ks : mm.ks = m.ks
  lt : mm.letters = m.sent.map fun l => (kindFor l d, l.2.2)
  an : mm.answers.length = givenN m g d
  w : ∀ i, mm.whole = some i → mm.kindAt i ≠ ("other" : Str)
  o : ∀ i, mm.own = some i → mm.kindAt i ≠ ("other" : Str)
  s : mm.view = mm.showing
structure PInv (m : PoM) : Prop where
  gd : ∀ r ∈ m.rs, r.Good
  hz : m.rs.length ≤ 1000
  ev : ∀ x ∈ m.ds, EvOk x.e ∧ x.e.length ≤ 1000 ∧ (x.g = none → EvOk (("other " : Str) ++ x.e))
  pl : PlainG m
  sk : ∀ l ∈ m.sent, l.1 ∈ lettersL
  gv : ∀ l ∈ m.given, ∃ o j, l = (some o, some j)
  lk : ∀ g d, d < m.days → ∃ mm, Link m g d mm
theorem weave_snoc (m : PoM) (x : DD) (g : Str) (d : Nat) : (m.do x).weave g d = weave1 g d (m.weave g d) x := by
  unfold PoM.weave PoM.do
  show (m.ds ++ [x]).foldl _ _ = _
  rw [List.foldl_append]
  rfl
theorem sent_snoc (m : PoM) (x : DD) : (m.do x).sent = sent1 m.ks m.sent x := by
  unfold PoM.sent PoM.do sentOf
  show (m.ds ++ [x]).foldl _ _ = _
  rw [List.foldl_append]
  rfl
theorem given_snoc (m : PoM) (x : DD) : (m.do x).given = m.given ++ if x.e = ("answer" : Str) then [(x.g, x.d)] else [] := by
  unfold PoM.given PoM.do
  show ((m.ds ++ [x]).filter _).map _ = _
  rw [List.filter_append, List.map_append]
  congr 1
  by_cases e : x.e = ("answer" : Str)
  · rw [List.filter_cons_of_pos (by simpa using e), if_pos e]
    rfl
  · rw [List.filter_cons_of_neg (by simpa using e), if_neg e]
    rfl
theorem sent_ne (m : PoM) : m.sent ≠ [] := by
  have a : ∀ (ds : List DD) (l : List L3), l ≠ [] → ds.foldl (sent1 m.ks) l ≠ [] := by
    intro ds
    induction ds with
    | nil => exact fun l h => h
    | cons x r ih =>
      intro l h
      refine ih _ ?_
      unfold sent1
      split
      · exact fun z => by simp at z
      · exact h
  exact a _ _ (by simp)
variable {m : PoM} {g : Str} {d : Nat} {mm : CM}
theorem Link.kind (h : Link m g d mm) {i : Nat} {l : L3} (hi : m.sent[i]? = some l) : mm.kindAt i = kindFor l d := by
  unfold CM.kindAt
  rw [h.lt, List.getElem?_map, hi]
  rfl
theorem Link.len (h : Link m g d mm) : mm.letters.length = m.sent.length := by rw [h.lt, List.length_map]
theorem Link.last (h : Link m g d mm) : mm.lastNum = lastN m.sent := by
  unfold CM.lastNum CM.numAt lastN
  rw [h.len, h.lt, List.getElem?_map, List.getLast?_eq_getElem?]
  cases m.sent[m.sent.length - 1]? <;> rfl
theorem Link.wf (I : PInv m) (h : Link m g d mm) : mm.WF := by
  refine goAll_wf (CM.WF.start I.gd I.hz) (fun z hz => ?_) h.go
  have a : ∀ (ds : List DD) (l : List Str), (∀ x ∈ ds, EvOk x.e ∧ x.e.length ≤ 1000 ∧ (x.g = none → EvOk (("other " : Str) ++ x.e))) → (∀ z ∈ l, EvOk z) → ∀ z ∈ ds.foldl (weave1 g d) l, EvOk z := by
    intro ds
    induction ds with
    | nil => exact fun l _ h => h
    | cons x r ih =>
      intro l hx hl
      refine ih _ (fun y hy => hx y (List.mem_cons_of_mem _ hy)) ?_
      have ex := hx x List.mem_cons_self
      unfold weave1
      split
      · rename_i hg
        intro z hz
        rcases List.mem_append.mp hz with hz | hz
        · exact hl z hz
        · rw [List.mem_singleton.mp hz]
          split
          · exact ex.1
          · exact ex.2.2 hg
      · split
        · intro z hz
          rcases List.mem_append.mp hz with hz | hz
          · exact hl z hz
          · rw [List.mem_singleton.mp hz]
            exact ex.1
        · exact hl
  exact a _ _ I.ev (fun _ h => by cases h) z hz
theorem Link.showing_kind (h : Link m g d mm) {i : Nat} (e : mm.showing = some i) : mm.kindAt i ≠ ("other" : Str) := by
  unfold CM.showing at e
  split at e
  · exact h.w i e
  · rename_i j q
    cases e
    exact h.o _ q
theorem mem_weave {z : Str} : ∀ (ds : List DD) (l : List Str), z ∈ ds.foldl (weave1 g d) l → z ∈ l ∨ ∃ x ∈ ds, z = x.e ∨ (x.g = none ∧ z = ("other " : Str) ++ x.e)
  | [], l, h => .inl h
  | x :: r, l, h => by
    rcases mem_weave r _ h with h | ⟨y, hy, h⟩
    · unfold weave1 at h
      split at h
      · rename_i hg
        rcases List.mem_append.mp h with h | h
        · exact .inl h
        · rw [List.mem_singleton] at h
          split at h
          · exact .inr ⟨x, List.mem_cons_self, .inl h⟩
          · exact .inr ⟨x, List.mem_cons_self, .inr ⟨hg, h⟩⟩
      · split at h
        · rcases List.mem_append.mp h with h | h
          · exact .inl h
          · exact .inr ⟨x, List.mem_cons_self, .inl (List.mem_singleton.mp h)⟩
        · exact .inl h
    · exact .inr ⟨y, List.mem_cons_of_mem _ hy, h⟩
theorem Link.plays (I : PInv m) (h : Link m g d mm) (hn : nameB g = true) (hd : d < m.days) (hl : m.ds.length ≤ 100) : Plays m g d mm where
  n := hn
  dd := hd
  l := by omega
  le := fun x hx => (I.ev x hx).2.1
  gd := I.gd
  hz := I.hz
  zl := by
    have := weave_len g d m.ds []
    unfold PoM.weave
    simp only [List.length_nil] at this
    omega
  zo := fun z hz => by
    rcases mem_weave _ _ hz with h | ⟨x, hx, h⟩
    · cases h
    · rcases h with rfl | ⟨h1, rfl⟩
      · exact (I.ev x hx).1
      · exact (I.ev x hx).2.2 h1
  go := h.go
theorem kindFor_in {l : L3} (h : kindFor l d ≠ ("other" : Str)) : kindFor l d = l.1 := by
  unfold kindFor at h ⊢
  split
  · rfl
  · rename_i c
    rw [if_neg c] at h
    exact absurd rfl h
/-! the steps -/
theorem PInv.send {k : Str} {dy : Option Nat} (I : PInv m) (hk : k ∈ lettersL) (hd : if wholeKind k = true then dy = none else ∃ j, dy = some j ∧ j < m.days) : PInv (m.do ⟨none, dy, k⟩) := by
  obtain ⟨f1, f2, f3, f4, f5, f6, f7, f8⟩ := deed_facts k hk
  have es : (m.do ⟨none, dy, k⟩).sent = m.sent ++ [(k, dy, lastN m.sent + if k ∈ m.ks then 1 else 0)] := by
    rw [sent_snoc]
    rfl
  have eg : (m.do ⟨none, dy, k⟩).given = m.given := by
    rw [given_snoc, if_neg f4, List.append_nil]
  refine ⟨I.gd, I.hz, fun x hx => ?_, fun x hx z e => ?_, fun l hl => ?_, fun l hl => ?_, fun g d hdd => ?_⟩
  · rcases List.mem_append.mp hx with hx | hx
    · exact I.ev x hx
    · rw [List.mem_singleton.mp hx]
      exact ⟨evB_ok f1, f7, fun _ => evB_ok f2⟩
  · rcases List.mem_append.mp hx with hx | hx
    · exact I.pl x hx z e
    · rw [List.mem_singleton.mp hx] at e
      cases e
  · rw [es] at hl
    rcases List.mem_append.mp hl with hl | hl
    · exact I.sk l hl
    · rw [List.mem_singleton.mp hl]
      exact hk
  · rw [eg] at hl
    exact I.gv l hl
  · obtain ⟨mm, L⟩ := I.lk g d hdd
    have wf := L.wf I
    have ew : (m.do ⟨none, dy, k⟩).weave g d = m.weave g d ++ [if fits ⟨none, dy, k⟩ d = true then k else ("other " : Str) ++ k] := by
      rw [weave_snoc]
      rfl
    have key : ∀ z, z = (if fits ⟨none, dy, k⟩ d = true then k else ("other " : Str) ++ k) → z ∈ CM.deedsAll ∧ CM.sentKind z = k ∧ (z = CM.sentKind z ↔ (dy = none ∨ dy = some d)) := by
      rintro z rfl
      have ef : fits ⟨none, dy, k⟩ d = true ↔ (dy = none ∨ dy = some d) := by
        unfold fits
        simp
      by_cases c : fits ⟨none, dy, k⟩ d = true
      · rw [if_pos c]
        exact ⟨f3, f6, fun _ => ef.mp c, fun _ => f6.symm⟩
      · rw [if_neg c]
        have nw : wholeKind k = false := by
          cases e : wholeKind k with
          | false => rfl
          | true =>
            rw [if_pos e] at hd
            exact absurd (ef.mpr (.inl hd)) c
        obtain ⟨h1, h2, h3⟩ := f8 nw
        exact ⟨h1, h2, fun h => absurd (h.trans h2) h3, fun h => absurd (ef.mpr h) c⟩
    obtain ⟨k1, k2, k3⟩ := key _ rfl
    generalize (if fits ⟨none, dy, k⟩ d = true then k else ("other " : Str) ++ k) = z at ew k1 k2 k3
    have ea : mm.act z = some (mm.send z, none, none) := by
      unfold CM.act
      rw [if_pos k1]
    obtain ⟨m2, g1, s1, s2⟩ := CM.goOn_of ea
    have en : mm.sentNum z = lastN m.sent + if k ∈ m.ks then 1 else 0 := by
      unfold CM.sentNum
      rw [L.last, k2, L.ks]
    have el : (mm.send z).letters = mm.letters ++ [(kindFor (k, dy, lastN m.sent + if k ∈ m.ks then 1 else 0) d, lastN m.sent + if k ∈ m.ks then 1 else 0)] := by
      unfold CM.send kindFor
      by_cases c : z = CM.sentKind z
      · rw [if_pos c, if_pos (k3.mp c)]
        show mm.letters ++ [(CM.sentKind z, mm.sentNum z)] = _
        rw [en, k2]
      · rw [if_neg c, if_neg fun h => c (k3.mpr h)]
        show mm.letters ++ [(("other" : Str), mm.sentNum z)] = _
        rw [en]
    have eo : (mm.send z).whole = mm.whole ∧ (mm.send z).own = mm.own ∧ (mm.send z).answers = mm.answers ∧ (mm.send z).ks = mm.ks := by
      unfold CM.send
      split <;> exact ⟨rfl, rfl, rfl, rfl⟩
    have kk : ∀ i, i < mm.letters.length → m2.kindAt i = mm.kindAt i := fun i hi => by
      unfold CM.kindAt
      rw [s1.lt, el, List.getElem?_append_left hi]
    refine ⟨m2, ?_, ?_, ?_, ?_, fun i e => ?_, fun i e => ?_, s2⟩
    · show (CM.start m.ks m.rs).goAll _ = _
      rw [ew, CM.goAll_snoc L.go]
      exact g1
    · exact s1.ks.trans (eo.2.2.2.trans L.ks)
    · rw [s1.lt, el, es, List.map_append, L.lt]
      rfl
    · rw [s1.an, eo.2.2.1, L.an]
      unfold givenN
      rw [eg]
    · have e2 : mm.whole = some i := by rw [← eo.1, ← s1.w]; exact e
      rw [kk i (wf.whole i e2)]
      exact L.w i e2
    · have e2 : mm.own = some i := by rw [← eo.2.1, ← s1.o]; exact e
      rw [kk i (wf.own i e2)]
      exact L.o i e2
theorem weave_skip {x : DD} (h1 : x.g ≠ none) (h2 : (decide (x.g = some g) && fits x d) = false) : (m.do x).weave g d = m.weave g d := by
  rw [weave_snoc]
  unfold weave1
  rw [if_neg h1, if_neg (by rw [h2]; exact Bool.false_ne_true)]
theorem weave_add {x : DD} (h1 : x.g ≠ none) (h2 : (decide (x.g = some g) && fits x d) = true) : (m.do x).weave g d = m.weave g d ++ [x.e] := by
  rw [weave_snoc]
  unfold weave1
  rw [if_neg h1, if_pos h2]
theorem sent_skip {x : DD} (h1 : x.g ≠ none) : (m.do x).sent = m.sent := by
  rw [sent_snoc]
  unfold sent1
  rw [if_neg h1]
theorem PInv.come {o : Str} {i : Nat} {l : L3} (I : PInv m) (ho : PyData.canLay0 (.str o) = true) (hi : m.sent[i]? = some l) (hs : m.sent.length < 48) : PInv (m.do ⟨some o, l.2.1, evCome i⟩) := by
  have hi2 := (List.getElem?_eq_some_iff.mp hi).1
  obtain ⟨f1, f2, f3, f4⟩ := evCome_facts i (by omega)
  have es : (m.do ⟨some o, l.2.1, evCome i⟩).sent = m.sent := sent_skip (fun z => by cases z)
  have eg : (m.do ⟨some o, l.2.1, evCome i⟩).given = m.given := by
    rw [given_snoc, if_neg f3, List.append_nil]
  refine ⟨I.gd, I.hz, fun x hx => ?_, fun x hx z e => ?_, fun l hl => ?_, fun l hl => ?_, fun g d hdd => ?_⟩
  · rcases List.mem_append.mp hx with hx | hx
    · exact I.ev x hx
    · rw [List.mem_singleton.mp hx]
      exact ⟨evB_ok f1, f4, fun z => by cases z⟩
  · rcases List.mem_append.mp hx with hx | hx
    · exact I.pl x hx z e
    · rw [List.mem_singleton.mp hx] at e
      cases e
      exact ho
  · rw [es] at hl
    exact I.sk l hl
  · rw [eg] at hl
    exact I.gv l hl
  · obtain ⟨mm, L⟩ := I.lk g d hdd
    cases c : (decide ((some o : Option Str) = some g) && fits ⟨some o, l.2.1, evCome i⟩ d) with
    | false =>
      refine ⟨mm, ?_, L.ks, ?_, ?_, L.w, L.o, L.s⟩
      · rw [weave_skip (fun z => by cases z) c]
        exact L.go
      · rw [es]
        exact L.lt
      · rw [L.an]
        unfold givenN
        rw [eg]
    | true =>
      have fd : l.2.1 = none ∨ l.2.1 = some d := by
        have := (Bool.and_eq_true_iff.mp c).2
        unfold fits at this
        simpa using this
      have kk : mm.kindAt i = l.1 := by
        rw [L.kind hi]
        unfold kindFor
        rw [if_pos fd]
      have kn : mm.kindAt i ≠ ("other" : Str) := by
        rw [kk]
        exact (deed_facts _ (I.sk l (List.mem_of_getElem? hi))).2.2.2.2.1
      have ea : mm.act (evCome i) = some (mm.come i, mm.ruleFor i, none) := by
        unfold CM.act CM.toCome
        rw [if_neg f2, L.len, evCome_read _ hs i hi2]
        simp only
        rw [if_neg kn]
      obtain ⟨m2, g1, s1, s2⟩ := CM.goOn_of ea
      obtain ⟨c1, c2, c3, c4, c5, c6⟩ := CM.come_same (m := mm) i
      have k2 : ∀ j, m2.kindAt j = mm.kindAt j := fun j => by
        unfold CM.kindAt
        rw [s1.lt, c3]
      refine ⟨m2, ?_, ?_, ?_, ?_, fun j e => ?_, fun j e => ?_, s2⟩
      · rw [weave_add (fun z => by cases z) c]
        show (CM.start m.ks m.rs).goAll _ = _
        rw [CM.goAll_snoc L.go]
        exact g1
      · exact s1.ks.trans (c1.trans L.ks)
      · rw [s1.lt, c3, es]
        exact L.lt
      · rw [s1.an, c4, L.an]
        unfold givenN
        rw [eg]
      · rw [k2]
        rcases c5 j (s1.w.symm.trans e) with h | rfl
        · exact L.w j h
        · exact kn
      · rw [k2]
        rcases c6 j (s1.o.symm.trans e) with h | rfl
        · exact L.o j h
        · exact kn
theorem PInv.answer {o : Str} {j i : Nat} {l : L3} {m1 : CM} (I : PInv m) (ho : PyData.canLay0 (.str o) = true) (L1 : Link m o j m1) (hv : m1.view = some i) (hi : m.sent[i]? = some l) (hk : l.1 ∈ (["ask", "day"] : List Str)) (hg : m.given.length < 48) : PInv (m.do ⟨some o, some j, "answer"⟩) := by
  obtain ⟨f1, f2, f3⟩ := answer_facts
  have es : (m.do ⟨some o, some j, "answer"⟩).sent = m.sent := sent_skip (fun z => by cases z)
  have eg : (m.do ⟨some o, some j, "answer"⟩).given = m.given ++ [(some o, some j)] := by
    rw [given_snoc, if_pos rfl]
  refine ⟨I.gd, I.hz, fun x hx => ?_, fun x hx z e => ?_, fun l hl => ?_, fun l hl => ?_, fun g d hdd => ?_⟩
  · rcases List.mem_append.mp hx with hx | hx
    · exact I.ev x hx
    · rw [List.mem_singleton.mp hx]
      exact ⟨evB_ok f1, f3, fun z => by cases z⟩
  · rcases List.mem_append.mp hx with hx | hx
    · exact I.pl x hx z e
    · rw [List.mem_singleton.mp hx] at e
      cases e
      exact ho
  · rw [es] at hl
    exact I.sk l hl
  · rw [eg] at hl
    rcases List.mem_append.mp hl with hl | hl
    · exact I.gv l hl
    · exact ⟨o, j, List.mem_singleton.mp hl⟩
  · by_cases c : o = g ∧ j = d
    · obtain ⟨rfl, rfl⟩ := c
      have sh : m1.showing = some i := L1.s.symm.trans hv
      have kn := L1.showing_kind sh
      have kk : m1.kindAt i = l.1 := by
        rw [L1.kind hi] at kn ⊢
        exact kindFor_in kn
      have ca : m1.canAnswer = true := by
        unfold CM.canAnswer
        rw [sh]
        show decide (m1.kindAt i ∈ _) = true
        rw [kk]
        exact decide_eq_true hk
      have ea : m1.act "answer" = some ({ m1 with answers := m1.answers ++ [m1.showing.getD 0] }, none, none) := by
        unfold CM.act CM.toCome CM.toHear
        rw [if_neg f2, read_none answer_starts.1]
        simp only
        rw [read_none answer_starts.2]
        simp only
        rw [if_pos (by rw [ca]; rfl)]
      obtain ⟨m2, g1, s1, s2⟩ := CM.goOn_of ea
      have k2 : ∀ j, m2.kindAt j = m1.kindAt j := fun j => by
        unfold CM.kindAt
        rw [s1.lt]
      refine ⟨m2, ?_, ?_, ?_, ?_, fun j e => ?_, fun j e => ?_, s2⟩
      · rw [weave_add (fun z => by cases z) (by unfold fits; simp)]
        show (CM.start m.ks m.rs).goAll _ = _
        rw [CM.goAll_snoc L1.go]
        exact g1
      · exact s1.ks.trans L1.ks
      · rw [s1.lt, es]
        exact L1.lt
      · rw [s1.an]
        show (m1.answers ++ [m1.showing.getD 0]).length = _
        unfold givenN
        rw [eg, List.length_append, List.countP_append, L1.an]
        unfold givenN
        simp
      · rw [k2]
        exact L1.w j (s1.w.symm.trans e)
      · rw [k2]
        exact L1.o j (s1.o.symm.trans e)
    · obtain ⟨mm, L⟩ := I.lk g d hdd
      refine ⟨mm, ?_, L.ks, ?_, ?_, L.w, L.o, L.s⟩
      · rw [weave_skip (fun z => by cases z) (by
          unfold fits
          by_cases h1 : o = g
          · have h2 : ¬ j = d := fun h => c ⟨h1, h⟩
            simp [h1, h2]
          · simp [h1])]
        exact L.go
      · rw [es]
        exact L.lt
      · rw [L.an]
        unfold givenN
        rw [eg, List.countP_append]
        have : ¬ ((some o, some j) : Option Str × Option Nat) = (some g, some d) := fun h => c (by
          injection h with h1 h2
          exact ⟨Option.some.inj h1, Option.some.inj h2⟩)
        simp [this]
theorem PInv.heard {n : Nat} {l : Option Str × Option Nat} (I : PInv m) (hn : m.given[n]? = some l) (hg : m.given.length < 48) : PInv (m.do ⟨l.1, l.2, evHeard ((m.given.take n).countP fun p => decide (p = l))⟩) := by
  obtain ⟨o, j, rfl⟩ := I.gv l (List.mem_of_getElem? hn)
  have hn2 := (List.getElem?_eq_some_iff.mp hn).1
  have cn : ((m.given.take n).countP fun p => decide (p = (some o, some j))) < givenN m o j := by
    unfold givenN
    have e : m.given = m.given.take n ++ (some o, some j) :: m.given.drop (n + 1) := by
      conv => lhs; rw [← List.take_append_drop n m.given, List.drop_eq_getElem_cons hn2, (List.getElem?_eq_some_iff.mp hn).2]
    conv => rhs; rw [e]
    rw [List.countP_append, List.countP_cons_of_pos (by simp)]
    omega
  have gl : givenN m o j ≤ m.given.length := List.countP_le_length
  generalize ((m.given.take n).countP fun p => decide (p = (some o, some j))) = c at cn ⊢
  obtain ⟨f1, f2, f3, f4, f5⟩ := evHeard_facts c (by omega)
  have es : (m.do ⟨some o, some j, evHeard c⟩).sent = m.sent := sent_skip (fun z => by cases z)
  have eg : (m.do ⟨some o, some j, evHeard c⟩).given = m.given := by
    rw [given_snoc, if_neg f3, List.append_nil]
  have pl : ∃ x ∈ m.ds, x.g = some o := by
    obtain ⟨x, hx, e⟩ := List.mem_map.mp (List.mem_of_getElem? hn)
    exact ⟨x, (List.mem_filter.mp hx).1, by injection e⟩
  refine ⟨I.gd, I.hz, fun x hx => ?_, fun x hx z e => ?_, fun l hl => ?_, fun l hl => ?_, fun g d hdd => ?_⟩
  · rcases List.mem_append.mp hx with hx | hx
    · exact I.ev x hx
    · rw [List.mem_singleton.mp hx]
      exact ⟨evB_ok f1, f4, fun z => by cases z⟩
  · rcases List.mem_append.mp hx with hx | hx
    · exact I.pl x hx z e
    · rw [List.mem_singleton.mp hx] at e
      cases e
      obtain ⟨y, hy, ey⟩ := pl
      exact I.pl y hy _ ey
  · rw [es] at hl
    exact I.sk l hl
  · rw [eg] at hl
    exact I.gv l hl
  · obtain ⟨mm, L⟩ := I.lk g d hdd
    by_cases e : o = g ∧ j = d
    · obtain ⟨rfl, rfl⟩ := e
      have ea : mm.act (evHeard c) = some (mm.hear c, mm.ruleHear c, some (mm.ansAt c)) := by
        unfold CM.act CM.toCome CM.toHear
        rw [if_neg f2, read_none f5]
        simp only
        rw [L.an, evHeard_read _ (by omega) c cn]
      obtain ⟨m2, g1, s1, s2⟩ := CM.goOn_of ea
      obtain ⟨c1, c2, c3, c4, c5, c6⟩ := CM.hear_same (m := mm) c
      have k2 : ∀ j, m2.kindAt j = mm.kindAt j := fun j => by
        unfold CM.kindAt
        rw [s1.lt, c3]
      refine ⟨m2, ?_, ?_, ?_, ?_, fun j e => ?_, fun j e => ?_, s2⟩
      · rw [weave_add (fun z => by cases z) (by unfold fits; simp)]
        show (CM.start m.ks m.rs).goAll _ = _
        rw [CM.goAll_snoc L.go]
        exact g1
      · exact s1.ks.trans (c1.trans L.ks)
      · rw [s1.lt, c3, es]
        exact L.lt
      · rw [s1.an, c4, L.an]
        unfold givenN
        rw [eg]
      · rw [k2]
        exact L.w j (c5.symm.trans (s1.w.symm.trans e))
      · rw [k2]
        exact L.o j (c6.symm.trans (s1.o.symm.trans e))
    · refine ⟨mm, ?_, L.ks, ?_, ?_, L.w, L.o, L.s⟩
      · rw [weave_skip (fun z => by cases z) (by
          unfold fits
          by_cases h1 : o = g
          · have h2 : ¬ j = d := fun h => e ⟨h1, h⟩
            simp [h1, h2]
          · simp [h1])]
        exact L.go
      · rw [es]
        exact L.lt
      · rw [L.an]
        unfold givenN
        rw [eg]
theorem PInv.start {ks : List Str} {rs : List RuleD} {n : Nat} (g : ∀ r ∈ rs, r.Good) (hz : rs.length ≤ 1000) : PInv ⟨ks, rs, n, []⟩ where
  gd := g
  hz := hz
  ev := fun x hx => by cases hx
  pl := fun x hx => by cases hx
  sk := fun l hl => by
    rw [List.mem_singleton.mp hl]
    decide
  gv := fun l hl => by cases hl
  lk := fun g d _ => ⟨CM.start ks rs, rfl, rfl, rfl, rfl, fun i e => (by cases e), fun i e => (by cases e), rfl⟩
theorem idx_count (ls : List (Option Str × Option Nat)) (pr : Option Str × Option Nat) : (idxOf ls pr).length = ls.countP fun p => decide (p = pr) := by
  unfold idxOf
  rw [List.length_map]
  have a : ∀ (ls : List (Option Str × Option Nat)) (k : Nat), ((ls.zipIdx k).filter fun p => decide (p.1 = pr)).length = ls.countP fun p => decide (p = pr) := by
    intro ls
    induction ls with
    | nil => intro k; rfl
    | cons x r ih =>
      intro k
      rw [List.zipIdx_cons]
      by_cases e : x = pr
      · rw [List.filter_cons_of_pos (by simpa using e), List.countP_cons_of_pos (by simpa using e), List.length_cons, ih]
      · rw [List.filter_cons_of_neg (by simpa using e), List.countP_cons_of_neg (by simpa using e), ih]
  exact a ls 0
/-- what is counted has a number -/
theorem Link.counted (I : PInv m) (h : Link m g d mm) : ∃ r, CountedFor m g d mm r ∧ (mm.counted = none ↔ r = none) := by
  have wf := h.wf I
  unfold CountedFor
  cases e : mm.counted with
  | none => exact ⟨none, rfl, Iff.rfl⟩
  | some c =>
    have hc := wf.counted c e
    rw [h.an] at hc
    have hl : c < (idxOf m.given (some g, some d)).length := by
      rw [idx_count]
      exact hc
    exact ⟨some _, ⟨_, List.getElem?_eq_getElem hl, rfl⟩, ⟨fun z => (by cases z), fun z => (by cases z)⟩⟩
theorem sent_grow (m : PoM) (x : DD) : (m.do x).sent.length ≤ m.sent.length + 1 := by
  rw [sent_snoc]
  unfold sent1
  split
  · rw [List.length_append]
    exact Nat.le_refl _
  · exact Nat.le_succ _
theorem sent_len_le (m : PoM) : m.sent.length ≤ m.ds.length + 1 := by
  have a := (sent_len m.ks m.ds [("ask", none, 0)])
  simp only [List.length_cons, List.length_nil] at a
  unfold PoM.sent sentOf
  omega
theorem given_len_le (m : PoM) : m.given.length ≤ m.ds.length := by
  unfold PoM.given
  rw [List.length_map]
  exact List.length_filter_le _ _
end Ov


namespace Ov
open PySem PySem.Spec PyProof.Rows L2
open Evl (pss_cut tCut Ex Ev EvT EvL EvA EvU)
open TL (tl pre spl joinL spl_hit spl_miss spl_nil tl_append map_tl_inj spl_part1)
/-! ### words of a command (pure) -/
/-- no blank at its ends, none behind another one -/
def okW (l : List Nat) : Bool := (spl [32] 0 [] l).all fun p => !p.isEmpty
theorem spl_cat (a b acc : List Nat) : spl [32] 0 acc (a ++ 32 :: b) = spl [32] 0 acc a ++ spl [32] 0 [] b := by
  induction a generalizing acc with
  | nil =>
    rw [List.nil_append, spl_hit (by rfl), spl_nil]
    rfl
  | cons c a ih =>
    by_cases hc : c = 32
    · subst hc
      rw [List.cons_append, spl_hit (by rfl), spl_hit (by rfl)]
      show acc :: spl [32] 0 [] (a ++ 32 :: b) = (acc :: spl [32] 0 [] a) ++ _
      rw [ih]
      rfl
    · have e : ∀ r, pre [32] (c :: r) = false := fun r => by
        unfold pre
        simp [hc]
      rw [List.cons_append, spl_miss (e _), spl_miss (e _), ih]
theorem okW_cat {a b : List Nat} (h1 : okW a = true) (h2 : okW b = true) : okW (a ++ 32 :: b) = true := by
  unfold okW at *
  rw [spl_cat, List.all_append, h1, h2]
  rfl
theorem okW_join {sep : Str} {S : List Nat} (e : tl sep = 32 :: (S ++ [32])) (hs : okW S = true) : ∀ {l : List Str}, l ≠ [] → (∀ x ∈ l, okW (tl x) = true) → okW (tl (Str.join sep l)) = true
  | [], h, _ => absurd rfl h
  | [x], _, h => h x List.mem_cons_self
  | x :: y :: r, _, h => by
    show okW (tl (x ++ sep ++ Str.join sep (y :: r))) = true
    have ih := okW_join e hs (l := y :: r) (by simp) fun z hz => h z (List.mem_cons_of_mem _ hz)
    have e2 : tl (x ++ sep ++ Str.join sep (y :: r)) = tl x ++ 32 :: (S ++ 32 :: tl (Str.join sep (y :: r))) := by
      rw [tl_append, tl_append, e]
      simp
    rw [e2]
    exact okW_cat (h x List.mem_cons_self) (okW_cat hs ih)
theorem okW_join1 {sep : Str} (e : tl sep = [32]) : ∀ {l : List Str}, l ≠ [] → (∀ x ∈ l, okW (tl x) = true) → okW (tl (Str.join sep l)) = true
  | [], h, _ => absurd rfl h
  | [x], _, h => h x List.mem_cons_self
  | x :: y :: r, _, h => by
    show okW (tl (x ++ sep ++ Str.join sep (y :: r))) = true
    have ih := okW_join1 e (l := y :: r) (by simp) fun z hz => h z (List.mem_cons_of_mem _ hz)
    have e2 : tl (x ++ sep ++ Str.join sep (y :: r)) = tl x ++ 32 :: tl (Str.join sep (y :: r)) := by
      rw [tl_append, tl_append, e]
      simp
    rw [e2]
    exact okW_cat (h x List.mem_cons_self) ih
theorem first_ok {ks : List Str} (h : ∀ k ∈ ks, k ∈ lettersL) : okW (tl (firstLine ks)) = true := by
  have a : ∀ k ∈ ("raise" : Str) :: lettersL, okW (tl k) = true := by decide +kernel
  unfold firstLine
  refine okW_join1 (by decide +kernel) (by simp) fun k hk => a k ?_
  rcases List.mem_cons.mp hk with z | z
  · exact List.mem_cons.mpr (.inl z)
  · exact List.mem_cons_of_mem _ (h k z)
theorem rule_ok {r : RuleD} (g : r.Good) : okW (tl (ruleText r)) = true := by
  have k : ∀ k ∈ kindsAll, okW (tl (("on " : Str) ++ k)) = true := by decide +kernel
  have t : ∀ t ∈ allTests, okW (tl t) = true := by decide +kernel
  have d : ∀ t ∈ allDeeds, okW (tl t) = true := by decide +kernel
  have h1 : okW (tl (("on " : Str) ++ r.k ++ tText r.ts)) = true := by
    unfold tText
    split
    · rw [tl_append, show tl ("" : Str) = [] by decide +kernel, List.append_nil]
      exact k _ g.k
    · rename_i hne
      have hj := okW_join (sep := " and ") (S := [97, 110, 100]) (by rw [tl_and]; rfl) (by decide) hne fun x hx => t x (tests_all (g.ts x hx))
      rw [tl_append (("on " : Str) ++ r.k), tl_append (" if " : Str), tl_if]
      show okW (tl (("on " : Str) ++ r.k) ++ 32 :: ([105, 102] ++ 32 :: tl (Str.join " and " r.ts))) = true
      exact okW_cat (k _ g.k) (okW_cat (by decide) hj)
  unfold ruleText dText
  split
  · rw [tl_append _ ("" : Str), show tl ("" : Str) = [] by decide +kernel, List.append_nil]
    exact h1
  · rename_i hne
    have hj := okW_join (sep := " then ") (S := [116, 104, 101, 110]) (by rw [tl_then]; rfl) (by decide) hne fun x hx => d x (deeds_all (g.ds x hx))
    rw [tl_append (("on " : Str) ++ r.k ++ tText r.ts), tl_append (" do " : Str), tl_do]
    show okW (tl (("on " : Str) ++ r.k ++ tText r.ts) ++ 32 :: ([100, 111] ++ 32 :: tl (Str.join " then " r.ds))) = true
    exact okW_cat h1 (okW_cat (by decide) hj)
theorem semi_rule {r : RuleD} (g : r.Good) : 59 ∉ tl (ruleText r) := by
  have k : ∀ k ∈ kindsAll, 59 ∉ tl (("on " : Str) ++ k) := by decide +kernel
  have t : ∀ t ∈ allTests, 59 ∉ tl t := by decide +kernel
  have d : ∀ t ∈ allDeeds, 59 ∉ tl t := by decide +kernel
  unfold ruleText
  rw [tl_append, tl_append, List.mem_append, List.mem_append]
  rintro ((z | z) | z)
  · exact k _ g.k z
  · unfold tText at z
    split at z
    · exact absurd z (by decide +kernel)
    · rw [tl_append, tl_if] at z
      rcases List.mem_append.mp z with z | z
      · exact absurd z (by decide)
      · exact joined_no (by rw [tl_and]; decide) (fun x hx => t x (tests_all (g.ts x hx))) z
  · unfold dText at z
    split at z
    · exact absurd z (by decide +kernel)
    · rw [tl_append, tl_do] at z
      rcases List.mem_append.mp z with z | z
      · exact absurd z (by decide)
      · exact joined_no (by rw [tl_then]; decide) (fun x hx => d x (deeds_all (g.ds x hx))) z
theorem semi_first {ks : List Str} (h : ∀ k ∈ ks, k ∈ lettersL) : 59 ∉ tl (firstLine ks) := by
  have a : ∀ k ∈ ("raise" : Str) :: lettersL, 59 ∉ tl k := by decide +kernel
  unfold firstLine
  refine joined_no (by decide +kernel) fun k hk => a k ?_
  rcases List.mem_cons.mp hk with z | z
  · exact List.mem_cons.mpr (.inl z)
  · exact List.mem_cons_of_mem _ (h k z)
/-- the lines of a plan's text -/
def linesOf (ks : List Str) (rs : List RuleD) : List Str := firstLine ks :: rs.map ruleText
def planWords (ks : List Str) (rs : List RuleD) : Str := Str.join " ; " (linesOf ks rs)
section
variable {ks : List Str} {rs : List RuleD}
theorem lines_all {Pp : Str → Prop} (h1 : Pp (firstLine ks)) (h2 : ∀ r ∈ rs, Pp (ruleText r)) : ∀ x ∈ linesOf ks rs, Pp x := fun x hx => by
  rcases List.mem_cons.mp hx with rfl | hx
  · exact h1
  · obtain ⟨r, hr, rfl⟩ := List.mem_map.mp hx
    exact h2 r hr
theorem words_ok (hk : ∀ k ∈ ks, k ∈ lettersL) (g : ∀ r ∈ rs, r.Good) : okW (tl (planWords ks rs)) = true :=
  okW_join (sep := " ; ") (S := [59]) (by decide +kernel) (by decide) (by simp [linesOf]) (lines_all (first_ok hk) fun r hr => rule_ok (g r hr))
theorem words_line (hk : ∀ k ∈ ks, k ∈ lettersL) (g : ∀ r ∈ rs, r.Good) : 10 ∉ tl (planWords ks rs) := by
  refine joined_no (by decide +kernel) (lines_all (Pp := fun x => 10 ∉ tl x) ?_ fun r hr => line_rule (g r hr))
  exact joined_no (by decide +kernel) (word_no (.inl rfl) hk)
theorem semi_lines (hk : ∀ k ∈ ks, k ∈ lettersL) (g : ∀ r ∈ rs, r.Good) : ∀ x ∈ linesOf ks rs, 59 ∉ tl x := lines_all (semi_first hk) fun r hr => semi_rule (g r hr)
end
/-! ### ; between lines is a new line -/
open PySem.StrLaws (replL replL_nil replL_hit replL_miss replace_list)
theorem take3_no {p q : List Nat} (h : 59 ∉ p) (hp : p ≠ []) (hq : q = [] ∨ ∃ r, q = 32 :: r) : ¬ (p ++ q).take ([32, 59, 32] : List Nat).length = [32, 59, 32] := by
  intro e
  match p, hp, h with
  | [a], _, h =>
    rcases hq with rfl | ⟨r, rfl⟩
    · simp at e
    · match r with
      | [] => simp at e
      | b :: r => simp at e
  | a :: b :: p, _, h =>
    have e2 : b = 59 := by
      match p, q, e with
      | [], [], e => simp at e
      | [], c :: q, e =>
        simp at e
        exact e.2.1
      | c :: p, q, e =>
        simp at e
        exact e.2.1
    rw [e2] at h
    exact h (by simp)
theorem repl_pass : ∀ {p q : List Nat}, 59 ∉ p → (q = [] ∨ ∃ r, q = 32 :: r) → replL [32, 59, 32] [10] (p ++ q) = p ++ replL [32, 59, 32] [10] q
  | [], q, _, _ => rfl
  | a :: p, q, h, hq => by
    have n := take3_no (p := a :: p) h (by simp) hq
    rw [List.cons_append] at n ⊢
    rw [replL_miss n, repl_pass (fun z => h (List.mem_cons_of_mem _ z)) hq]
    rfl
theorem repl_lines : ∀ {l : List Str}, (∀ x ∈ l, 59 ∉ tl x) → replL [32, 59, 32] [10] (joinL [32, 59, 32] (l.map tl)) = joinL [10] (l.map tl)
  | [], _ => replL_nil
  | [x], h => by
    have := repl_pass (p := tl x) (q := []) (h x List.mem_cons_self) (.inl rfl)
    rw [List.append_nil, replL_nil, List.append_nil] at this
    exact this
  | x :: y :: r, h => by
    have ih := repl_lines (l := y :: r) fun z hz => h z (List.mem_cons_of_mem _ hz)
    show replL [32, 59, 32] [10] (tl x ++ ([32, 59, 32] ++ joinL [32, 59, 32] ((y :: r).map tl))) = tl x ++ ([10] ++ joinL [10] ((y :: r).map tl))
    rw [repl_pass (q := [32, 59, 32] ++ joinL [32, 59, 32] ((y :: r).map tl)) (h x List.mem_cons_self) (.inr ⟨_, rfl⟩)]
    have hit : replL [32, 59, 32] [10] (32 :: (59 :: 32 :: joinL [32, 59, 32] ((y :: r).map tl))) = [10] ++ replL [32, 59, 32] [10] ((32 :: (59 :: 32 :: joinL [32, 59, 32] ((y :: r).map tl))).drop 3) := replL_hit (by simp) (by rfl)
    rw [show ([32, 59, 32] ++ joinL [32, 59, 32] ((y :: r).map tl)) = 32 :: (59 :: 32 :: joinL [32, 59, 32] ((y :: r).map tl)) from rfl, hit]
    show tl x ++ ([10] ++ replL [32, 59, 32] [10] (joinL [32, 59, 32] ((y :: r).map tl))) = _
    rw [ih]
theorem plan_back {ks : List Str} {rs : List RuleD} (hk : ∀ k ∈ ks, k ∈ lettersL) (g : ∀ r ∈ rs, r.Good) : Txt.replace (planWords ks rs) " ; " "\n" = planText ks rs := by
  refine TL.ext_tl ?_
  have h := replace_list (x := planWords ks rs) (y := " ; ") (z := "\n") (by decide +kernel)
  have e1 : (" ; " : Str).cps.toList = [32, 59, 32] := by decide +kernel
  have e2 : ("\n" : Str).cps.toList = [10] := by decide +kernel
  have e3 : (planWords ks rs).cps.toList = joinL [32, 59, 32] ((linesOf ks rs).map tl) := by
    have := TL.tl_join " ; " (linesOf ks rs)
    rw [show tl " ; " = [32, 59, 32] by decide +kernel] at this
    exact this
  rw [e1, e2, e3, repl_lines (semi_lines hk g)] at h
  have e4 := TL.tl_join "\n" (linesOf ks rs)
  rw [show tl "\n" = [10] by decide +kernel] at e4
  exact h.trans e4.symm
/-! ### its words -/
theorem ok_parts {x : Str} (h : okW (tl x) = true) : ∀ w ∈ Txt.split x " ", w ≠ "" := fun w hw e => by
  have es := TL.split_spl x " " (by decide +kernel) (TL.kind_ok (by decide +kernel))
  rw [show tl " " = [32] by decide +kernel] at es
  have hm : tl w ∈ spl [32] 0 [] (tl x) := by
    rw [← es]
    exact List.mem_map_of_mem hw
  have := List.all_eq_true.mp h _ hm
  rw [e] at this
  exact absurd this (by decide +kernel)
theorem head_word {w x : Str} (hw : 32 ∉ tl w) : Txt.split (w ++ " " ++ x) " " = w :: Txt.split x " " := by
  refine map_tl_inj ?_
  have es := fun z => TL.split_spl z " " (by decide +kernel) (TL.kind_ok (by decide +kernel))
  have e1 : tl " " = [32] := by decide +kernel
  rw [List.map_cons, es, es, e1, tl_append, tl_append, e1, List.append_assoc]
  exact spl_part1 (s := 32) (S := []) (acc := []) hw
theorem no_line {x : Str} (h : 10 ∉ tl x) : (!(Builtin.Str.occurrences x "\n" 0 x.length 1).isEmpty) = false := by
  have := PySem.StrLaws.found_one x 10
  rw [show ("\n" : Str) = ⟨#[10]⟩ by decide +kernel, this]
  exact decide_eq_false h
/-! ### own rules: what stands in a written dict, or else; a joined text's replace -/
def tKGet (K : PySem.W.Frag) (w : World) (te tk td : TE) : TE := fun σ H Q => te σ H fun x H1 => ∃ p k v, x = .ref p ∧ (p == sysModules) = false ∧ KDct K w p k v ∧ tk σ H1 fun y H2 => td σ H2 fun _ H3 => y = .str k ∧ Q v H3
theorem pe_kget {X : Cx} {o e f : Expr} {to te tf : TE} {apos cpos : Pos} (ho : PE X o to) (he : PE X e te) (hf : PE X f tf) (m : M2 X o "get" apos e f cpos) : PE X (.Call (.Attribute o "get" apos) [e, f] [] cpos) (tKGet X.K X.w to te tf) := by
  refine ⟨fun pins s σ H Q I h => ?_⟩
  refine wpAny_Call_method m.base m.few m.line PySem.F.plainAttrs_dict PySem.F.slot_dict_get PySem.F.type_dict_get (thn (ho.run pins s σ H _ I h) fun u s1 ⟨x, H1, I1, rx, p, k, v, ex, low, ⟨es, n, u0, hl, hk, el, ru⟩, q1⟩ => ?_)
  subst ex
  obtain rfl : u = Value.ref p := rx
  have hm1 := PySem.W.mapOf_K (prog := X.prog) (w := X.w) I1.kIn hl hk
  refine ⟨hm1.typeIs, (fun a ea => ?_), ?_⟩
  · cases ea
    exact ⟨_, I1.kIn _ _ hl, rfl⟩
  rw [m.trees]
  refine Calls.callWith_builtin rfl (Calls.evalArgs_plain (Calls.spliced_cons (thn (he.run pins s1 σ H1 _ I1 q1) fun iv s2 ⟨y, H2, I2, ry, q2⟩ =>
    Calls.spliced_cons (thn (hf.run pins s2 σ H2 _ I2 q2) fun fv s3 ⟨z, H3, I3, rz, ey, q3⟩ => Calls.spliced_nil ?_))))
  subst ey
  obtain ⟨t, rfl⟩ := _root_.id ry
  have hm3 := PySem.W.mapOf_K (prog := X.prog) (w := X.w) I3.kIn hl hk
  refine call_meetsIn PySem.F.slot_dict_get hm3.typeIs PySem.F.entry_dict_get (PySem.F.args_dict_get_3 _ _ _) (meets_dict_get_default (strKind X.prog X.w) p (strKind_is X.prog X.w k t) low fv) ⟨_, hm3, ?_⟩
  rw [PySem.W.find_K hl el]
  exact ⟨v, H3, I3.tok _, ru, q3⟩
def tReplJ (K : PySem.W.Frag) (a y z : Str) (te : TE) : TE := fun σ H Q => te σ H fun v H1 => ∃ (p : Addr) (ys : List Str), v = .ref p ∧ (SqL K H1 p (ys.map V.str) ∨ SqT K H1 p (ys.map V.str)) ∧ (ys.map (·.length)).sum + ys.length * a.length ≤ 16777216 ∧
  (Txt.join a ys).length + ((Txt.join a ys).length + 1) * z.length ≤ 16777216 ∧ Q (.str (Txt.replace (Txt.join a ys) y z)) H1
theorem pe_replJ {X : Cx} {e : Expr} {te : TE} {a y z : Str} {k0 j k : Nat} {c c0 c1 ap1 p1 apos pos : Pos} (he : PE X e te) (hyz : (y == z) = false := by decide)
    (hs1 : starEach [e] X.env = [(false, eval e X.env)] := by rfl) (hb1 : attributeBase (.Constant (.str a) k0 c) "join" X.env (eval (.Constant (.str a) k0 c) X.env) = eval (.Constant (.str a) k0 c) X.env := by rfl) (hl1 : (ap1.endLine == p1.line) = true := by rfl)
    (hst : starEach [.Constant (.str y) j c0, .Constant (.str z) k c1] X.env = [(false, eval (.Constant (.str y) j c0) X.env), (false, eval (.Constant (.str z) k c1) X.env)] := by rfl)
    (hbase : attributeBase (.Call (.Attribute (.Constant (.str a) k0 c) "join" ap1) [e] [] p1) "replace" X.env (eval (.Call (.Attribute (.Constant (.str a) k0 c) "join" ap1) [e] [] p1) X.env) = eval (.Call (.Attribute (.Constant (.str a) k0 c) "join" ap1) [e] [] p1) X.env := by rfl) (hline : (apos.endLine == pos.line) = true := by rfl) :
    PE X (.Call (.Attribute (.Call (.Attribute (.Constant (.str a) k0 c) "join" ap1) [e] [] p1) "replace" apos) [.Constant (.str y) j c0, .Constant (.str z) k c1] [] pos) (tReplJ X.K a y z te) := by
  refine ⟨fun pins s σ H Q I h => ?_⟩
  have run1 : wpAny (model X.prog X.w) X.A (eval (.Call (.Attribute (.Constant (.str a) k0 c) "join" ap1) [e] [] p1) X.env) (fun v s' => 1 ≤ s'.toks ∧ ∃ x H', Inv X pins σ H' s' ∧ RelV x v ∧ ∃ ys : List Str, x = .str (Txt.join a ys) ∧ (Txt.join a ys).length + ((Txt.join a ys).length + 1) * z.length ≤ 16777216 ∧ Q (.str (Txt.replace (Txt.join a ys) y z)) H') X.xe s := by
    refine PySem.Call_method1 hb1 hs1 hl1 (Calls.Constant_str ?_)
    refine ⟨"str", _, PySem.F.plainAttrs_str, PySem.F.slot_str_join, PySem.F.type_str_join, typeIs_str _ _ _, (fun _ e => nomatch e), Calls.callWith_builtin rfl (Calls.evalArgs_plain (Calls.spliced_cons ?_))⟩
    have J : Inv X pins σ H { s with toks := s.toks + 1 } := I.tok _
    refine wpAny_mono (PySem.wpAny_toks_of (n := 1) (by show 1 ≤ s.toks + 1; omega) (he.run pins _ σ H _ J h)) (fun u s2 q => ?_) fun _ _ z => z.2
    obtain ⟨hk, v, H2, I2, r2, p, ys, ev, hS, hz, hb, q2⟩ := q
    subst ev
    refine Calls.spliced_nil ?_
    refine wpAny_mono (PySem.wpAny_toks_of hk (mt_join pins s2 σ H2 (.str a) [.ref p] (.str a s.toks) [u] (fun x H' => ∃ ys : List Str, x = .str (Txt.join a ys) ∧ (Txt.join a ys).length + ((Txt.join a ys).length + 1) * z.length ≤ 16777216 ∧ Q (.str (Txt.replace (Txt.join a ys) y z)) H') I2 ⟨_, rfl⟩ (.cons r2 .nil) ⟨a, p, ys, rfl, rfl, hS, hz, ys, rfl, hb, q2⟩)) (fun v s3 q => ?_) fun _ _ z => z.2
    exact q
  refine PySem.Call_method2 hbase hst hline (wpAny_mono run1 (fun v s1 q => ?_) fun _ _ z => z)
  obtain ⟨hk, v', H1, I1, r1, ys, e1, hb, q⟩ := q
  subst e1
  obtain ⟨tx, e2⟩ := r1
  subst e2
  refine ⟨"str", _, PySem.F.plainAttrs_str, PySem.F.slot_str_replace, PySem.F.type_str_replace, typeIs_str _ _ _, (fun _ e => nomatch e), Calls.callWith_builtin rfl (Calls.evalArgs_plain (Calls.spliced_cons ?_))⟩
  refine Calls.Constant_str (Calls.spliced_cons (Calls.Constant_str (Calls.spliced_nil ?_)))
  exact PySem.SC.replace (by show s1.toks ≠ 0; omega) (by show s1.toks + 1 ≠ 0; omega) (by show s1.toks ≠ s1.toks + 1; omega) hyz hb fun t' k => ⟨.str (Txt.replace (Txt.join a ys) y z), H1, I1.tok k, ⟨t', rfl⟩, q⟩
end Ov


namespace Ov
open PySem PySem.Spec PyProof.Rows L2
open Evl (pss_cut tCut Ex Ev EvT EvL EvA EvU)
open TL (tl pre spl joinL spl_hit spl_miss spl_nil tl_append map_tl_inj spl_part1)
/-! ### a number that is told: the greatest one is 10000 -/
def spReadBig : Sp := fun vs H Q _ => ∃ (z word : Str) (many : Nat), vs = [.str z, .str word, .int (many : Int)] ∧ z.length ≤ 600 ∧ (Txt.removeprefix z word).length ≤ 600 ∧ WordOk z word ∧ many = 10000 ∧ ∀ H', Ex H H' → Q (ov (readPlaceM z word many)) H'
section
variable {P : Program} {w : World} {K : PySem.W.Frag} {mg : Str → Option Value} {base : Heap} {a_LETTERS a_LETTER_TESTS a_LETTER_DEEDS a_ANSWER_TESTS a_ANSWER_DEEDS CR : Addr} {tA tN : Tok}
theorem ok_read_big {f : Addr} {fd : FuncData} (F : Fun K "read_place" "read_place" sReadPlace f fd) (T : TxR K mg a_LETTERS a_LETTER_TESTS a_LETTER_DEEDS a_ANSWER_TESTS a_ANSWER_DEEDS CR tA tN) : FnOk P w K mg base CX0 1 f fd ["value", "word", "many"] spReadBig := by
  refine F.ok scReadPlace (fun vs H Q E h => ?_) (fun cdv A outer s H vs Q E hr h => ?_)
  · obtain ⟨z, word, many, rfl, _⟩ := h
    rfl
  · obtain ⟨z, word, many, rfl, hz, hl, ho, hm, q⟩ := h
    refine ⟨_, pss_cons (ps_if (PW.pt (pw_or (pt_not (pt_val (pe_callB call_isi (by rfl) T.n_isinstance (by decide +kernel) (pa_cons (pv 0) (pa_cons (pe_bltn (v := .ty "str") (by rfl) T.n_str (by decide +kernel) rfl) pa_nil))))) (pw_or1 (pt_not (pt_val (pe_bm PySem.F.plainAttrs_str PySem.F.slot_str_startswith PySem.F.type_str_startswith mt_startswith (pv 0) (pa_cons (pv 1) pa_nil))))))) (pss_one (ps_ret pe_non)) pss_nil)
      (pss_cons (ps_set (i := 3) scReadPlace.nd rfl (.inl rfl) (pe_bm PySem.F.plainAttrs_str PySem.F.slot_str_removeprefix PySem.F.type_str_removeprefix mt_removeprefix (pv 0) (pa_cons (pv 1) pa_nil)))
      (pss_cons (ps_if (PW.pt (pw_or (pt_cmpR op_gt (pe_callB call_len_str (by rfl) T.n_len (by decide +kernel) (pa_cons (pv 3) pa_nil)) (pe_callB call_len_str (by rfl) T.n_len (by decide +kernel) (pa_cons (pe_callTy call_str_int (by rfl) T.n_str (by decide +kernel) (pa_cons (pv 2) pa_nil)) pa_nil)) (nomark _)) (pw_or1 (pt_not (pt_val (pe_bm0 PySem.F.plainAttrs_str PySem.F.slot_str_isdecimal PySem.F.type_str_isdecimal mt_isdecimal (pv 3))))))) (pss_one (ps_ret pe_non)) pss_nil)
      (pss_cons (ps_set (i := 4) scReadPlace.nd rfl (.inl rfl) (pe_callTy call_int_str (by rfl) T.n_int (by decide +kernel) (pa_cons (pv 3) pa_nil)))
      (pss_one (ps_ret (pe_ifExp (PW.pt (pw_and (pt_cmpR op_lt (pv 4) (pv 2) (nomark _)) (pw_and1 (pt_cmpR op_eq (pe_callTy call_str_int (by rfl) T.n_str (by decide +kernel) (pa_cons (pv 4) pa_nil)) (pv 3) (nomark _))))) (pv 4) pe_non)))))), ?_⟩
    refine Evl.q_when (b := !Txt.startswith z word) (Evl.et_is (Evl.et_or (a := false) (Evl.et_not (a := true) (Evl.et_B (ev_isi (Evl.ea_cons (Evl.ev_var rfl) (Evl.ea_cons Evl.ev_c Evl.ea_nil)) (.ty _) (fun _ _ => .base (.str _)) (kit_ty (by decide +kernel))))) (fun _ => Evl.et_not (Evl.et_B (ev_starts (Evl.ev_var rfl) (Evl.ev_var rfl))))) rfl) (fun hb H1 e1 => ?_) (fun hb H1 e1 => ?_)
    · refine Evl.s_ret (v := .non) Evl.ev_c fun H2 e2 => ?_
      have e : readPlaceM z word many = none := by
        unfold readPlaceM
        rw [if_neg (by simpa using hb)]
      have q2 := q H2 (e1.trans e2)
      rw [e] at q2
      exact q2
    · have hs : Txt.startswith z word = true := by simpa using hb
      refine Evl.q_asg (v := .str (Txt.removeprefix z word)) (fun H2 e2 Q2 q2 => ⟨_, rfl, rfl, _, rfl, _, _, rfl, rfl, size_of (by omega), q2 H2 (Ex.refl _)⟩) fun H2 e2 => ?_
      have lm : ((many : Int)).natAbs.log2 < 1920 := Nat.lt_of_lt_of_le (log_small (k := 20) (by simp; omega) (by decide)) (by decide)
      have ls : (strI many).length ≤ 10 := by rw [hm]; decide +kernel
      refine Evl.q_when (b := decide ((Txt.removeprefix z word).length > (strI many).length) || !Txt.isdecimal (Txt.removeprefix z word)) (Evl.et_or (Evl.et_is (Evl.et_test (Evl.ev_op (ev_lenS (Evl.ev_var rfl) (by omega)) (ev_lenS (z := strI many) (ev_strInt (Evl.ev_var rfl) lm) (by omega)) Evl.rv_I0)) (decide_eq_decide.mpr ⟨fun h => by omega, fun h => by omega⟩)) (fun _ => Evl.et_not (Evl.et_B (b := Txt.isdecimal (Txt.removeprefix z word)) (fun H3 e3 Q3 q3 => ⟨_, rfl, rfl, _, rfl, rfl, trivial, q3 H3 (Ex.refl _)⟩)))) (fun hb H3 e3 => ?_) (fun hb H3 e3 => ?_)
      · refine Evl.s_ret (v := .non) Evl.ev_c fun H4 e4 => ?_
        have e : readPlaceM z word many = none := by
          unfold readPlaceM
          rw [if_pos hs, if_pos hb]
        have q2 := q H4 (((e1.trans e2).trans e3).trans e4)
        rw [e] at q2
        exact q2
      · have hdec : Txt.isdecimal (Txt.removeprefix z word) = true := by
          simp only [Bool.or_eq_false_iff, Bool.not_eq_false'] at hb
          exact hb.2
        obtain ⟨n, hn, hn2⟩ := ho hdec
        refine Evl.q_asg (v := .int (n : Int)) (fun H4 e4 Q4 q4 => ⟨_, rfl, _, (n : Int), rfl, hn, by omega, q4 H4 (Ex.refl _)⟩) fun H4 e4 => ?_
        have ln : ((n : Int)).natAbs.log2 < 1920 := Nat.lt_of_lt_of_le (log_small (k := 1000) (by simpa using hn2) (by decide)) (by decide)
        have er : readPlaceM z word many = if decide ((n : Int) < (many : Int)) && decide ((toString (n : Int) : Str) = Txt.removeprefix z word) then some n else none := by
          unfold readPlaceM
          rw [if_pos hs, if_neg (by rw [hb]; decide), hn]
          rfl
        refine Evl.s_ret (v := ov (readPlaceM z word many)) (Evl.ev_if (b := decide ((n : Int) < (many : Int)) && decide ((toString (n : Int) : Str) = Txt.removeprefix z word)) (Evl.et_and (Evl.et_test (Evl.ev_op (Evl.ev_var rfl) (Evl.ev_var rfl) Evl.rv_I0)) (fun _ => Evl.et_is (Evl.et_test (Evl.ev_op (ev_strInt (Evl.ev_var rfl) ln) (Evl.ev_var rfl) (Evl.rv_eq rfl))) (eq_str _ _))) (fun h => ?_) (fun h => ?_)) fun H5 e5 => q H5 ((((e1.trans e2).trans e3).trans e4).trans e5)
        · rw [er, if_pos h]
          exact Evl.ev_var rfl
        · rw [er, if_neg (by rw [h]; decide)]
          exact Evl.ev_c
end
theorem num_read : ∀ i < 100, readPlaceM (strI i) "" 10000 = some i ∧ (strI i).length ≤ 4 ∧ (Txt.removeprefix (strI i) "").length ≤ 600 ∧ PySem.intText? (Txt.removeprefix (strI i) "") = some (i : Int) ∧ PySem.intText? (strI i) = some (i : Int) := by decide +kernel
theorem num_word {i : Nat} (h : i < 100) : WordOk (strI i) "" := fun _ => ⟨i, (num_read i h).2.2.2.1, Nat.lt_trans h (by decide)⟩
theorem ok_lenD {r : RuleD} (o : r.Ok) : (ruleText r).length ≤ 250 := by
  have lk := kinds_len o.k
  have s1 := sum_small r.ts 16 fun x hx => testsNot_len (o.ts x hx)
  have s2 := sum_small r.ds 16 fun x hx => deedsOf_len (o.ds x hx)
  have j1 := join_len " and " r.ts
  have j2 := join_len " then " r.ds
  have n1 : (Str.ofString " and ").length = 5 := by decide +kernel
  have n2 : (Str.ofString " then ").length = 6 := by decide +kernel
  have n3 : (Str.ofString "on ").length = 3 := by decide +kernel
  have n4 : (Str.ofString " if ").length = 4 := by decide +kernel
  have n5 : (Str.ofString " do ").length = 4 := by decide +kernel
  have nt := o.nt
  have nd := o.nd
  rw [n1] at j1
  rw [n2] at j2
  have t1 : (tText r.ts).length ≤ 90 := by
    unfold tText
    split
    · decide
    · rw [Str.length_append, n4]
      omega
  have t2 : (dText r.ds).length ≤ 100 := by
    unfold dText
    split
    · decide
    · rw [Str.length_append, n5]
      omega
  unfold ruleText
  rw [Str.length_append, Str.length_append, Str.length_append, n3]
  omega
theorem spl_len : ∀ (l acc : List Nat), (spl [32] 0 acc l).length ≤ l.length + 1
  | [], acc => by
    rw [spl_nil]
    exact Nat.le_refl _
  | c :: r, acc => by
    by_cases hc : pre [32] (c :: r) = true
    · rw [spl_hit hc, List.length_cons, List.length_cons]
      exact Nat.succ_le_succ (spl_len r [])
    · rw [spl_miss (by simpa using hc), List.length_cons]
      exact Nat.le_succ_of_le (spl_len r _)
theorem split_len (x : Str) : (Txt.split x " ").length ≤ x.length + 1 := by
  have es := TL.split_spl x " " (by decide +kernel) (TL.kind_ok (by decide +kernel))
  rw [show tl " " = [32] by decide +kernel] at es
  have h := spl_len (tl x) []
  rw [← es, List.length_map] at h
  have e : (tl x).length = x.length := Array.length_toList
  omega
theorem ev_anyX {K : PySem.W.Frag} {σ : L2.St} {H : Hp} {te : TE} {bs : List Bool} (hb : bs.any id = true) (h : EvL te σ H (bs.map V.bl)) : Ev (tCB (rAny K) (tCons te tNil)) σ H (.bl true) := fun H1 e Q q =>
  h H1 e _ fun p H2 _ e2 hp => ⟨p, bs, rfl, Evl.sq_of hp, by rw [hb]; exact q H2 e2⟩
theorem prd_atX {α β : Type} {R : α → β → Prop} : ∀ {xs : List α} {ys : List β} {i : Nat} {x : α}, Paired R xs ys → xs[i]? = some x → ∃ y, ys[i]? = some y ∧ R x y
  | _, _, 0, _, .cons h _, e => by
    cases Option.some.inj e
    exact ⟨_, rfl, h⟩
  | _, _, i + 1, _, .cons _ t, e => prd_atX (i := i) t e
theorem cut_oneX (n : Str) (ws : List Str) : cutV ((n :: ws).map V.str) (some 1) none = ws.map V.str := cut_rest ((n :: ws).map V.str) 1 (by rw [List.length_map, List.length_cons]; omega)
/-! ### the forms of commands -/
inductive IsOf : Str → Str → Bool → Prop
  | word {w : Str} : IsOf w "word" true
  | days {w : Str} : IsOf w "days" (decide (w ∈ (["1", "2", "3", "4"] : List Str)))
  | num {i : Nat} (h : i < 100) : IsOf (strI i) "number" true
inductive HasForm (ws : List Str) : Str → Bool → Prop
  | more (h : ws ≠ []) : HasForm ws "word .." true
  | no {form : Str} {ss : List Str} (h1 : Txt.endswith form " .." = false) (h2 : Txt.words form = ss) (h3 : form.length ≤ 100) (h : ws.length ≠ ss.length) : HasForm ws form false
  | yes {form : Str} {ss : List Str} (h1 : Txt.endswith form " .." = false) (h2 : Txt.words form = ss) (h3 : form.length ≤ 100) (h : ws.length = ss.length) (hs : ∀ (i : Nat) (w s : Str), ws[i]? = some w → ss[i]? = some s → IsOf w s true) : HasForm ws form true
def spIsOf : Sp := fun vs H Q _ => ∃ (w s : Str) (b : Bool), vs = [.str w, .str s] ∧ IsOf w s b ∧ ∀ H', Ex H H' → Q (.bl b) H'
def spHasForm : Sp := fun vs H Q _ => ∃ (L : Addr) (ws : List Str) (form : Str) (b : Bool), vs = [.ref L, .str form] ∧ H L = some (.lst (ws.map V.str)) ∧ ws.length ≤ 36000 ∧ HasForm ws form b ∧ ∀ H', Ex H H' → Q (.bl b) H'
def spWordsOf : Sp := fun vs H Q _ => ∃ (z n : Str) (ws fs : List Str) (bs : List Bool), vs = [.str z] ∧ z.length ≤ 35000 ∧ 10 ∉ tl z ∧ Txt.split z " " = n :: ws ∧ ("" : Str) ∉ n :: ws ∧ formsD.lookup n = some fs ∧ fs.length ≤ 10 ∧ Paired (HasForm ws) fs bs ∧ bs.any id = true ∧ ∀ L H', H L = none → Ex H H' → H' L = some (.lst ((n :: ws).map V.str)) → Q (.ref L) H'
/-- what the desk's module holds -/
structure TxF (K : PySem.W.Frag) (w : World) (mg : Str → Option Value) (aF aG : Addr) (tM tNu : Tok) : Prop where
  g_FORMS : mg "FORMS" = some (.ref aF)
  lowF : (aF == sysModules) = false
  kF : ∀ z l, formsD.lookup z = some l → ∃ q, KDct K w aF z (.ref q) ∧ ∀ H, SqT K H q (l.map V.str)
  g_GOALS : mg "GOALS" = some (.ref aG)
  g_MORE : mg "MORE" = some (.str " .." tM)
  g_NUMBERS : mg "NUMBERS" = some (.int 10000 tNu)
  n_any : mg "any" = none
  n_zip : mg "zip" = none
abbrev rRemSuf : V → List V → Hp → VK → Prop := fun x xs H Q => ∃ a b, x = V.str a ∧ xs = [V.str b] ∧ a.length ≤ sizeLine ∧ Q (V.str (Txt.removesuffix a b)) H
section
variable {P : Program} {w : World} {K : PySem.W.Frag} {mg : Str → Option Value} {base : Heap} {a_LETTERS a_LETTER_TESTS a_LETTER_DEEDS a_ANSWER_TESTS a_ANSWER_DEEDS CR aF aG : Addr} {tA tN tM tNu : Tok}
theorem scIsOf : FnScope ["word", "sort"] ["word", "sort"] (defScope sIsOf) := ⟨rfl, rfl, rfl, by decide +kernel, rfl, by decide +kernel, by decide +kernel⟩
theorem scHasForm : FnScope ["words", "form", "sorts", "word", "sort"] ["words", "form"] (defScope sHasForm) := ⟨rfl, rfl, rfl, by decide +kernel, rfl, by decide +kernel, by decide +kernel⟩
theorem scWordsOf : FnScope ["command", "words", "form"] ["command"] (defScope sWordsOf) := ⟨rfl, rfl, rfl, by decide +kernel, rfl, by decide +kernel, by decide +kernel⟩
theorem ok_is_of {f fR : Addr} {fd fdR : FuncData} (F : Fun K "is_of" "is_of" sIsOf f fd) (T : TxR K mg a_LETTERS a_LETTER_TESTS a_LETTER_DEEDS a_ANSWER_TESTS a_ANSWER_DEEDS CR tA tN) (TF : TxF K w mg aF aG tM tNu) (D_read_place : Df K mg "read_place" sReadPlace ["value", "word", "many"] fR fdR) : FnOk P w K mg base CX0 2 f fd ["word", "sort"] spIsOf := by
  have G_read_place : FnOk P w K mg base CX0 1 fR fdR ["value", "word", "many"] spReadBig := ok_read_big D_read_place.F T
  refine F.ok scIsOf (fun vs H Q E h => ?_) (fun cdv A outer s H vs Q E hr h => ?_)
  · obtain ⟨w, s, b, rfl, _⟩ := h
    rfl
  · obtain ⟨w, s, b, rfl, hi, q⟩ := h
    refine ⟨_, pss_cons (ps_if (pt_cmpR op_eq (pv 1) pe_str (nomark _)) (pss_one (ps_ret (pe_cmpR op_in_seq (pv 0) (pe_glob (v := .ref aG) rfl TF.g_GOALS rfl) (by rfl)))) pss_nil)
      (pss_cons (ps_if (pt_cmpR op_eq (pv 1) pe_str (nomark _)) (pss_one (ps_ret (pe_cmpR op_in_seq (pv 0) (pe_tup (pa_cons pe_str (pa_cons pe_str (pa_cons pe_str (pa_cons pe_str pa_nil))))) (by rfl)))) pss_nil)
      (pss_one (ps_ret (pe_or (pe_cmpR op_eq (pv 1) pe_str (nomark _)) (pe_one (pe_cmpR op_notN (pe_call (E := E0) G_read_place (hr.mono (by decide)) rfl D_read_place.g D_read_place.F.kp D_read_place.b .nil pass0 (pa_cons (pv 0) (pa_cons pe_str (pa_cons (pe_glob (v := .int 10000) rfl TF.g_NUMBERS ⟨_, rfl⟩) pa_nil)))) pe_non (nomark _))))))), ?_⟩
    cases hi with
    | word =>
      refine Evl.q_when (b := false) (Evl.et_is (Evl.et_test (Evl.ev_op (x := .str "word") (Evl.ev_var rfl) Evl.ev_c (Evl.rv_eq rfl))) (by rw [eq_str]; decide +kernel)) (fun z => nomatch z) (fun _ H1 e1 => ?_)
      refine Evl.q_when (b := false) (Evl.et_is (Evl.et_test (Evl.ev_op (x := .str "word") (Evl.ev_var rfl) Evl.ev_c (Evl.rv_eq rfl))) (by rw [eq_str]; decide +kernel)) (fun z => nomatch z) (fun _ H2 e2 => ?_)
      exact Evl.s_ret (v := .bl true) (Evl.ev_orV (a := true) (b := true) (Evl.ev_is (Evl.ev_op (x := .str "word") (Evl.ev_var rfl) Evl.ev_c (Evl.rv_eq rfl)) (by rw [eq_str]; decide +kernel)) (fun z => nomatch z)) fun H3 e3 => q H3 ((e1.trans e2).trans e3)
    | days =>
      refine Evl.q_when (b := false) (Evl.et_is (Evl.et_test (Evl.ev_op (x := .str "days") (Evl.ev_var rfl) Evl.ev_c (Evl.rv_eq rfl))) (by rw [eq_str]; decide +kernel)) (fun z => nomatch z) (fun _ H1 e1 => ?_)
      refine Evl.q_when (b := true) (Evl.et_is (Evl.et_test (Evl.ev_op (x := .str "days") (Evl.ev_var rfl) Evl.ev_c (Evl.rv_eq rfl))) (by rw [eq_str]; decide +kernel)) (fun _ H2 e2 => ?_) (fun z => nomatch z)
      exact Evl.s_ret (v := .bl (decide (w ∈ (["1", "2", "3", "4"] : List Str)))) (Evl.ev_is (Evl.ev_inU (x := .str w) (xs := (["1", "2", "3", "4"] : List Str).map V.str) (Evl.ev_var rfl) (Evl.eu_tup (Evl.ea_cons Evl.ev_c (Evl.ea_cons Evl.ev_c (Evl.ea_cons Evl.ev_c (Evl.ea_cons Evl.ev_c Evl.ea_nil)))) (by show 4 ≤ 100000; decide)) rfl (flat_strs _)) (by rw [inV_strs])) fun H3 e3 => q H3 ((e1.trans e2).trans e3)
    | @num i h =>
      obtain ⟨n1, n2, n3, n4, n5⟩ := num_read i h
      refine Evl.q_when (b := false) (Evl.et_is (Evl.et_test (Evl.ev_op (x := .str "number") (Evl.ev_var rfl) Evl.ev_c (Evl.rv_eq rfl))) (by rw [eq_str]; decide +kernel)) (fun z => nomatch z) (fun _ H1 e1 => ?_)
      refine Evl.q_when (b := false) (Evl.et_is (Evl.et_test (Evl.ev_op (x := .str "number") (Evl.ev_var rfl) Evl.ev_c (Evl.rv_eq rfl))) (by rw [eq_str]; decide +kernel)) (fun z => nomatch z) (fun _ H2 e2 => ?_)
      refine Evl.s_ret (v := .bl true) (Evl.ev_orV (a := false) (b := true) (Evl.ev_is (Evl.ev_op (x := .str "number") (Evl.ev_var rfl) Evl.ev_c (Evl.rv_eq rfl)) (by rw [eq_str]; decide +kernel)) (fun _ => Evl.ev_is (Evl.ev_op (x := ov (some i)) (ev_call (Evl.ea_cons (Evl.ev_var rfl) (Evl.ea_cons Evl.ev_c (Evl.ea_cons Evl.ev_c Evl.ea_nil))) fun H3 e3 Q3 q3 => ⟨strI i, "", 10000, rfl, by omega, n3, num_word h, rfl, fun H4 e4 => ?_⟩) Evl.ev_c rv_notN) rfl)) fun H3 e3 => q H3 ((e1.trans e2).trans e3)
      rw [n1]
      exact q3 H4 e4
theorem ok_has_form {f fI fR : Addr} {fd fdI fdR : FuncData} (F : Fun K "has_form" "has_form" sHasForm f fd) (T : TxR K mg a_LETTERS a_LETTER_TESTS a_LETTER_DEEDS a_ANSWER_TESTS a_ANSWER_DEEDS CR tA tN) (TF : TxF K w mg aF aG tM tNu) (D_read_place : Df K mg "read_place" sReadPlace ["value", "word", "many"] fR fdR) (D_is_of : Df K mg "is_of" sIsOf ["word", "sort"] fI fdI) : FnOk P w K mg base CX0 3 f fd ["words", "form"] spHasForm := by
  have G_is_of : FnOk P w K mg base CX0 2 fI fdI ["word", "sort"] spIsOf := ok_is_of D_is_of.F T TF D_read_place
  refine F.ok scHasForm (fun vs H Q E h => ?_) (fun cdv A outer s H vs Q E hr h => ?_)
  · obtain ⟨L, ws, form, b, rfl, _⟩ := h
    rfl
  · obtain ⟨L, ws, form, b, rfl, hL, hz, hf, q⟩ := h
    refine ⟨_, pss_cons (ps_if (pt_val (pe_bm PySem.F.plainAttrs_str PySem.F.slot_str_endswith PySem.F.type_str_endswith mt_endswith (pv 1) (pa_cons (pe_glob (v := .str " ..") rfl TF.g_MORE ⟨_, rfl⟩) pa_nil))) (pss_one (ps_ret (pe_and (pe_cmpR op_gt (pe_callB call_len_seq (by rfl) T.n_len (by decide +kernel) (pa_cons (pv 0) pa_nil)) pe_int (nomark _)) (pe_one (pe_callB (cr_all rfl) (by rfl) T.n_all (by decide +kernel) (pa_cons (pe_lc (own := [("word", 3)]) (g := gName 3) (tt := tYes) (te := tCall spIsOf [] E0 (tCons (tVar 3) (tCons (tBM K "str" rRemSuf (tVar 1) (tCons (tC (.str " ..")) tNil)) tNil))) rfl scHasForm.nd (pi_list (pv 0)) (blkOk_by (own := [("word", 3)]) (N := ["words", "form", "sorts", "word", "sort"]) (sc := defScope sHasForm) (by decide +kernel)) (fun _ _ _ _ _ => (pg_name (i := 3) scHasForm.nd rfl (Or.inl rfl))) (fun _ _ _ _ _ => pts_nil) (fun _ _ _ _ _ => (pe_call (E := E0) G_is_of (hr.mono (by decide)) rfl D_is_of.g D_is_of.F.kp D_is_of.b .nil pass0 (pa_cons (pv 3) (pa_cons (pe_bm (r := rRemSuf) PySem.F.plainAttrs_str PySem.F.slot_str_removesuffix PySem.F.type_str_removesuffix mt_removesuffix (pv 1) (pa_cons (pe_glob (v := .str " ..") rfl TF.g_MORE ⟨_, rfl⟩) pa_nil)) pa_nil))))) pa_nil)))))) pss_nil)
      (pss_cons (ps_set (i := 2) scHasForm.nd rfl (.inl rfl) (pe_bm0 PySem.F.plainAttrs_str PySem.F.slot_str_split PySem.F.type_str_split mt_words (pv 1)))
      (pss_one (ps_ret (pe_and (pe_cmpR op_eq (pe_callB call_len_seq (by rfl) T.n_len (by decide +kernel) (pa_cons (pv 0) pa_nil)) (pe_callB call_len_seq (by rfl) T.n_len (by decide +kernel) (pa_cons (pv 2) pa_nil)) (nomark _)) (pe_one (pe_callB (cr_all rfl) (by rfl) T.n_all (by decide +kernel) (pa_cons (pe_lc (own := [("word", 3), ("sort", 4)]) (g := gTup K 2 (gCons (gName 3) (gCons (gName 4) gNil))) (tt := tYes) (te := tCall spIsOf [] E0 (tCons (tVar 3) (tCons (tVar 4) tNil))) rfl scHasForm.nd (pi_zip (by rfl) TF.n_zip (pa_cons (pv 0) (pa_cons (pv 2) pa_nil))) (blkOk_by (own := [("word", 3), ("sort", 4)]) (N := ["words", "form", "sorts", "word", "sort"]) (sc := defScope sHasForm) (by decide +kernel)) (fun _ _ _ _ _ => (pg_tup (by rfl) (pgs_cons (pg_name (i := 3) scHasForm.nd rfl (Or.inl rfl)) (pgs_cons (pg_name (i := 4) scHasForm.nd rfl (Or.inl rfl)) pgs_nil)))) (fun _ _ _ _ _ => pts_nil) (fun _ _ _ _ _ => (pe_call (E := E0) G_is_of (hr.mono (by decide)) rfl D_is_of.g D_is_of.F.kp D_is_of.b .nil pass0 (pa_cons (pv 3) (pa_cons (pv 4) pa_nil))))) pa_nil))))))), ?_⟩
    have ends : ∀ (H' : Hp), EvT (tB (tBM K "str" (fun x xs H Q => ∃ a b, x = V.str a ∧ xs = [V.str b] ∧ Q (V.bl (Txt.endswith a b)) H) (tVar 1) (tCons (tC (.str " ..")) tNil))) (L2.start ["words", "form", "sorts", "word", "sort"] [.ref L, .str form]) H' (Txt.endswith form " ..") := fun H' => Evl.et_B fun H1 e1 Q1 q1 => ⟨_, rfl, rfl, _, _, rfl, rfl, q1 H1 (Ex.refl _)⟩
    cases hf with
    | more hne =>
      refine Evl.q_when (b := true) (Evl.et_is (ends H) (by decide +kernel)) (fun _ H1 e1 => ?_) (fun z => nomatch z)
      have e : ws.map V.str ≠ [] := fun z => hne (List.map_eq_nil_iff.mp z)
      have lp : 0 < (ws.map V.str).length := List.length_pos_iff.mpr e
      refine Evl.s_ret (v := .bl true) (Evl.ev_andV (a := true) (b := true) (Evl.ev_is (Evl.ev_op (Evl.ev_len (Evl.ev_var rfl) (Evl.sq_of (e1 _ _ hL))) (Evl.ev_c (v := .int 0)) Evl.rv_I0) (congrArg V.bl (decide_eq_true (by omega)))) (fun _ => ?_)) fun H2 e2 => q H2 (e1.trans e2)
      refine Evl.ev_is (ev_all (K := K) (bs := List.replicate (ws.map V.str).length true) ?_) (by rw [all_true])
      rw [← range_true, ← given_all]
      refine Evl.el_lcL (K := K) (f := fun _ => true) (v := fun _ => V.bl true) (Evl.ev_var rfl) (Evl.sq_of (e1 _ _ hL)) (by rw [List.length_map]; omega) (fun _ => rfl) (fun _ _ _ _ _ => et_yes) (fun i x H2 e2 hx _ => ?_)
      obtain ⟨z, rfl, hz2⟩ := strs_at hx
      exact fun H3 e3 Q3 q3 => ⟨_, rfl, _, rfl, rfl, _, _, rfl, rfl, by decide +kernel, z, "word", true, by rw [show Txt.removesuffix ("word .." : Str) " .." = "word" by decide +kernel]; rfl, .word, fun H4 e4 => q3 H4 e4⟩
    | no h1 h2 h3 h =>
      refine Evl.q_when (b := false) (Evl.et_is (ends H) h1) (fun z => nomatch z) (fun _ H1 e1 => ?_)
      refine q_put ?_
      refine ⟨_, rfl, rfl, form, rfl, rfl, size_of (by omega), fun S nS => ?_⟩
      have e2 := e1.trans (Ex.new (o := .lst ((Txt.words form).map V.str)) nS)
      exact Evl.s_ret (v := .bl false) (Evl.ev_andV (a := false) (b := false) (Evl.ev_is (Evl.ev_op (Evl.ev_len (Evl.ev_var rfl) (Evl.sq_of (e2 _ _ hL))) (Evl.ev_len (Evl.ev_var rfl) (Evl.sq_of upd_same)) (Evl.rv_eq rfl)) (congrArg V.bl (decide_eq_false fun e => h (by
        have := V.int.inj e
        rw [List.length_map, List.length_map, h2] at this
        omega)))) (fun z => nomatch z)) fun H2 e3 => q H2 (e2.trans e3)
    | @yes _ ss h1 h2 h3 h hs =>
      refine Evl.q_when (b := false) (Evl.et_is (ends H) h1) (fun z => nomatch z) (fun _ H1 e1 => ?_)
      refine q_put ?_
      refine ⟨_, rfl, rfl, form, rfl, rfl, size_of (by omega), fun S nS => ?_⟩
      rw [h2]
      have e2 := e1.trans (Ex.new (o := .lst (ss.map V.str)) nS)
      have hS := upd_same (H := H1) (a := S) (o := .lst (ss.map V.str))
      generalize upd H1 S (.lst (ss.map V.str)) = H2 at e2 hS ⊢
      have hL2 := e2 _ _ hL
      refine Evl.s_ret (v := .bl true) (Evl.ev_andV (a := true) (b := true) (Evl.ev_is (Evl.ev_op (Evl.ev_len (Evl.ev_var rfl) (Evl.sq_of hL2)) (Evl.ev_len (Evl.ev_var rfl) (Evl.sq_of hS)) (Evl.rv_eq rfl)) (congrArg V.bl (decide_eq_true (by rw [List.length_map, List.length_map, h])))) (fun _ => ?_)) fun H3 e3 => q H3 (e2.trans e3)
      refine Evl.ev_is (ev_all (K := K) (bs := List.replicate ws.length true) ?_) (by rw [all_true])
      rw [← range_true]
      intro H3 e3 Q3 q3
      refine ⟨_, rfl, _, rfl, L, S, _, _, rfl, Evl.sq_of (e3 _ _ hL2), Evl.sq_of (e3 _ _ hS), fun D nD => ?_⟩
      have ml : min (ws.map V.str).length (ss.map V.str).length = ws.length := by rw [List.length_map, List.length_map, h, Nat.min_self]
      refine lc_it (walk_zip (xs := ws.map V.str) (ys := ss.map V.str) rfl) (fun j H' => Ex H3 H' ∧ j ≤ ws.length ∧ H' D = some (.lst ((List.range j).map fun _ => V.bl true))) ⟨Ex.new nD, Nat.zero_le _, upd_same⟩ (fun j H' _ z => ⟨Evl.sq_of (z.1 _ _ (e3 _ _ hL2)), Evl.sq_of (z.1 _ _ (e3 _ _ hS))⟩) ?_ ?_
      · rintro j x H4 H5 hj ⟨e4, hj2, hD⟩ ⟨T0, x1, y1, rfl, nT, rfl, hx1, hy1⟩
        obtain ⟨wd, rfl, hw⟩ := strs_at hx1
        obtain ⟨so, rfl, hso⟩ := strs_at hy1
        have e5 : Ex H4 (upd H4 T0 (.tup [.str wd, .str so])) := Ex.new nT
        refine ⟨T0, _, rfl, Evl.st_of upd_same, rfl, _, _, rfl, _, _, rfl, rfl, rfl, ?_⟩
        refine ⟨_, rfl, _, rfl, wd, so, true, rfl, hs j wd so hw hso, fun H6 e6 => ?_⟩
        have jl := (List.getElem?_eq_some_iff.mp hw).1
        refine ⟨_, (e5.trans e6) _ _ hD, Evl.sz_lt (by rw [List.length_map, List.length_range]; omega), ((e4.trans e5).trans e6).mut nD, jl, ?_⟩
        rw [upd_same, List.range_succ, List.map_append]
        rfl
      · rintro H4 ⟨e4, _, hD⟩
        rw [ml] at hD
        exact q3 D H4 nD e4 hD
theorem ok_words_of {f fH fI fR : Addr} {fd fdH fdI fdR : FuncData} (F : Fun K "words_of" "words_of" sWordsOf f fd) (T : TxR K mg a_LETTERS a_LETTER_TESTS a_LETTER_DEEDS a_ANSWER_TESTS a_ANSWER_DEEDS CR tA tN) (TF : TxF K w mg aF aG tM tNu) (D_read_place : Df K mg "read_place" sReadPlace ["value", "word", "many"] fR fdR) (D_is_of : Df K mg "is_of" sIsOf ["word", "sort"] fI fdI) (D_has_form : Df K mg "has_form" sHasForm ["words", "form"] fH fdH) : FnOk P w K mg base CX0 4 f fd ["command"] spWordsOf := by
  have G_has_form : FnOk P w K mg base CX0 3 fH fdH ["words", "form"] spHasForm := ok_has_form D_has_form.F T TF D_read_place D_is_of
  refine F.ok scWordsOf (fun vs H Q E h => ?_) (fun cdv A outer s H vs Q E hr h => ?_)
  · obtain ⟨z, n, ws, fs, bs, rfl, _⟩ := h
    rfl
  · obtain ⟨z, n, ws, fs, bs, rfl, hz, nl, hsp, ne, hfs, hfl, hp, hb, q⟩ := h
    refine ⟨_, pss_cons (ps_if (PW.pt (pw_or (pt_not (pt_val (pe_callB call_isi (by rfl) T.n_isinstance (by decide +kernel) (pa_cons (pv 0) (pa_cons (pe_bltn (v := .ty "str") (by rfl) T.n_str (by decide +kernel) rfl) pa_nil))))) (pw_or1 (pt_cmpR op_in_str pe_str (pv 0) (by rfl))))) (pss_one ps_never) pss_nil)
      (pss_cons (ps_set (i := 1) scWordsOf.nd rfl (.inr rfl) (pe_split (pv 0) pe_str))
      (pss_cons (ps_if (PW.pt (pw_or (pt_cmpR op_in_seq pe_str (pv 1) (by rfl)) (pw_or1 (pt_not (pt_val (pe_callB (cr_any rfl) (by rfl) TF.n_any (by decide +kernel) (pa_cons (pe_lc (own := [("form", 2)]) (g := gName 2) (tt := tYes) (te := tCall spHasForm [] E0 (tCons (tSl (rSlL K) (tVar 1) (tPart (tC (.int 1))) tNoPart) (tCons (tVar 2) tNil))) rfl scWordsOf.nd (pi_tup (pe_kget (pe_glob (v := .ref aF) rfl TF.g_FORMS rfl) (pe_ix ix_list (pv 1) pe_int (fun _ _ => rfl)) (pe_tup pa_nil) ⟨by rfl, by rfl, by rfl, by rfl⟩)) (blkOk_by (own := [("form", 2)]) (N := ["command", "words", "form"]) (sc := defScope sWordsOf) (by decide +kernel)) (fun _ _ _ _ _ => (pg_name (i := 2) scWordsOf.nd rfl (Or.inl rfl))) (fun _ _ _ _ _ => pts_nil) (fun _ _ _ _ _ => (pe_call (E := E0) G_has_form (hr.mono (by decide)) rfl D_has_form.g D_has_form.F.kp D_has_form.b .nil pass0 (pa_cons (pe_slice (r := rSlL K) sl_list (pv 1) (po_some pe_int) po_none) (pa_cons (pv 2) pa_nil))))) pa_nil))))))) (pss_one ps_never) pss_nil)
      (pss_one (ps_ret (pv 1))))), ?_⟩
    obtain ⟨q0, kd, hq⟩ := TF.kF n fs hfs
    -- a text of one line
    refine Evl.q_when (b := false) (Evl.et_is (Evl.et_or (a := false) (b := false) (Evl.et_is (Evl.et_not (a := true) (Evl.et_B (ev_isi (Evl.ea_cons (Evl.ev_var rfl) (Evl.ea_cons Evl.ev_c Evl.ea_nil)) (.ty _) (fun _ _ => .base (.str _)) (kit_ty (by decide +kernel))))) rfl) (fun _ => Evl.et_test (Evl.ev_is (fun H1 e1 Q1 q1 => ⟨_, rfl, _, _, rfl, rfl, q1 H1 (Ex.refl _)⟩) (congrArg V.bl (no_line nl))))) rfl) (fun z => nomatch z) (fun _ H1 e1 => ?_)
    -- its words
    refine q_put ?_
    refine ⟨_, rfl, ⟨_, rfl⟩, z, " ", rfl, rfl, by decide +kernel, size_of (by omega), fun L nL => ?_⟩
    rw [hsp]
    have e2 : Ex H (upd H1 L (.lst ((n :: ws).map V.str))) := e1.trans (Ex.new nL)
    have hL := upd_same (H := H1) (a := L) (o := .lst ((n :: ws).map V.str))
    have nLH : H L = none := Evl.fresh_back e1 nL
    generalize upd H1 L (.lst ((n :: ws).map V.str)) = H2 at e2 hL ⊢
    have wl : ws.length ≤ 35001 := by
      have := split_len z
      rw [hsp, List.length_cons] at this
      omega
    -- they are of a form
    have lb := paired_len hp
    refine Evl.q_when (b := false) (Evl.et_is (Evl.et_or (a := false) (b := false) (Evl.et_is (Evl.et_test (Evl.ev_op (x := .str "") Evl.ev_c (Evl.ev_var rfl) (Evl.rv_isL (Evl.sq_of hL) rfl (flat_strs _)))) (by rw [inV_strs]; exact decide_eq_false ne)) (fun _ => Evl.et_is (Evl.et_not (a := true) (Evl.et_B (ev_anyX (K := K) (bs := bs) hb ?_))) rfl)) rfl) (fun z => nomatch z) (fun _ H3 e3 => ?_)
    · intro H3 e3 Q3 q3
      have hL3 := e3 _ _ hL
      refine ⟨aF, n, .ref q0, rfl, TF.lowF, kd, _, rfl, L, _, 0, .str n, rfl, rfl, Evl.sq_of hL3, (show atI ((n :: ws).map V.str) ((0 : Nat) : Int) = some (V.str n) from atI_nat rfl), Nat.zero_le _, fun t0 nt0 => ⟨rfl, q0, rfl, ⟨_, hq _⟩, fun D nD => ?_⟩⟩
      have e4 : Ex H3 (upd H3 t0 (.tup [])) := Ex.new nt0
      have hL4 := e4 _ _ hL3
      generalize upd H3 t0 (.tup []) = H4 at e4 hL4 nD ⊢
      refine lc_it (walk_tup (xs := fs.map V.str)) (fun j H' => Ex H4 H' ∧ j ≤ fs.length ∧ H' D = some (.lst ((bs.take j).map V.bl))) ⟨Ex.new nD, Nat.zero_le _, upd_same⟩ (fun j H' _ _ => hq H') ?_ ?_
      · rintro j x H0 H5 hj ⟨e5, hj2, hD⟩ ⟨rfl, hx⟩
        obtain ⟨fo, rfl, hfo⟩ := strs_at hx
        obtain ⟨b, hb2, hf⟩ := prd_atX hp hfo
        refine ⟨rfl, ?_⟩
        refine ⟨_, rfl, 1, rfl, L, _, rfl, Evl.sq_of (e5 _ _ hL4), fun p np => ?_⟩
        have e6 : Ex H5 (upd H5 p (.lst (cutV ((n :: ws).map V.str) (some 1) none))) := Ex.new np
        have hp6 := upd_same (H := H5) (a := p) (o := .lst (cutV ((n :: ws).map V.str) (some 1) none))
        rw [show cutV ((n :: ws).map V.str) (some 1) none = ws.map V.str from cut_oneX n ws] at e6 hp6 ⊢
        refine ⟨_, rfl, p, ws, fo, b, rfl, hp6, by omega, hf, fun H7 e7 => ?_⟩
        have jl := (List.getElem?_eq_some_iff.mp hfo).1
        refine ⟨_, (e6.trans e7) _ _ hD, Evl.sz_lt (by rw [List.length_map, List.length_take]; omega), ((e5.trans e6).trans e7).mut nD, jl, ?_⟩
        rw [upd_same, List.take_add_one, hb2, List.map_append]
        rfl
      · rintro H5 ⟨e5, _, hD⟩
        rw [List.length_map, lb, List.take_length] at hD
        exact q3 D H5 (Evl.fresh_back e4 nD) (e4.trans e5) hD
    exact Evl.s_ret (v := .ref L) (Evl.ev_var rfl) fun H4 e4 => q L H4 nLH ((e2.trans e3).trans e4) ((e3.trans e4) _ _ hL)
end
end Ov


namespace Ov
open PySem PySem.Spec PyProof.Rows L2
open Evl (pss_cut tCut Ex Ev EvT EvL EvA EvU)
open TL (tl pre spl joinL spl_hit spl_miss spl_nil tl_append map_tl_inj spl_part1)
/-! ### what no store to a desk or a post changes -/
abbrev dkf (p q : Addr) : List (Str × V) := [("plan", .ref p), ("post", .ref q)]
theorem k_plan {p q : Addr} : (dkf p q).lookup ("plan" : Str) = some (.ref p) := by kernel_rfl
theorem k_post {p q : Addr} : (dkf p q).lookup ("post" : Str) = some (.ref q) := by kernel_rfl
theorem k_days {p q : Addr} : (dkf p q).lookup ("days" : Str) = none := by kernel_rfl
structure TxK (K : PySem.W.Frag) (CK : Addr) : Prop where
  cl : Cls K CK
  plan : NoAttr K CK "plan"
  post : NoAttr K CK "post"
def DeskAt (K : PySem.W.Frag) (CR CP CQ CK : Addr) (H : Hp) (d q : Addr) (m : PoM) : Prop := ∃ dx p, H d = some (.ins CK dx (dkf p q)) ∧ PlanIs K CR CP m.ks m.rs p H ∧ PostAt K CR CP CQ H q m
theorem ne_ins {H : Hp} {x y C d C' d' : Addr} {f f' : List (Str × V)} (h1 : H x = some (.ins C d f)) (h2 : H y = some (.ins C' d' f')) (n : f.lookup ("days" : Str) ≠ f'.lookup ("days" : Str)) : x ≠ y := fun z => by
  subst z
  rw [h1] at h2
  cases h2
  exact n rfl
theorem Kd.kn {H H' : Hp} {d C dx : Addr} {fs : List (Str × V)} {v : V} (h : H d = some (.ins C dx fs)) (hp : fs.lookup ("plan" : Str) = some v) (k : Kq d H H') : Kn H H' := fun x o hx np => by
  have n : x ≠ d := fun z => by
    subst z
    rw [h] at hx
    cases hx
    have := np _ _ _ rfl
    rw [hp] at this
    cases this
  exact k x o n n hx
section
variable {K : PySem.W.Frag} {CR CP CQ CK : Addr} {H H' : Hp} {d q r : Addr} {m m' m2 : PoM} {σ : L2.St} {te to : TE} {D : Ends} {tz : TS}
theorem Kd.post {C dx : Addr} {fs : List (Str × V)} {v : V} (h : H d = some (.ins C dx fs)) (hp : fs.lookup ("plan" : Str) = some v) (k : Kq d H H') (pa : PostAt K CR CP CQ H q m) (n : q ≠ d) : PostAt K CR CP CQ H' q m := by
  obtain ⟨dx', p, dd, xs, h1, h2, h3, h4⟩ := pa
  have kn := Kd.kn h hp k
  exact ⟨dx', p, dd, xs, k _ _ n n h1, kn.plan h2, kn.t h3, h4.keep kn.tups⟩
theorem DeskAt.ext (h : DeskAt K CR CP CQ CK H d q m) (e : Ex H H') : DeskAt K CR CP CQ CK H' d q m := by
  obtain ⟨dx, p, h1, h2, h3⟩ := h
  exact ⟨dx, p, e _ _ h1, h2.ex e, h3.ex e⟩
theorem DeskAt.ne (h : DeskAt K CR CP CQ CK H d q m) : q ≠ d := by
  obtain ⟨dx, p, h1, h2, dx', p', dd, xs, h3, _⟩ := h
  exact ne_ins h3 h1 (by rw [q_days, k_days]; exact fun z => nomatch z)
theorem PostAt.keepKq (g : PostAt K CR CP CQ H r m2) (k : Kq r H H') (h : PostAt K CR CP CQ H q m) (n : q ≠ r) : PostAt K CR CP CQ H' q m := by
  obtain ⟨dx', p', dd, xs, g1, _⟩ := g
  exact Kd.post g1 q_plan k h n
theorem DeskAt.kq (h : DeskAt K CR CP CQ CK H d q m) (k : Kq q H H') (p : PostAt K CR CP CQ H' q m') (e1 : m'.ks = m.ks) (e2 : m'.rs = m.rs) : DeskAt K CR CP CQ CK H' d q m' := by
  have ne := h.ne
  obtain ⟨dx, pl, h1, h2, dx', p', dd, xs, h3, _⟩ := h
  refine ⟨dx, pl, k _ _ ne.symm ne.symm h1, ?_, p⟩
  rw [e1, e2]
  exact (Kd.kn h3 q_plan k).plan h2
theorem DeskAt.kr (h : DeskAt K CR CP CQ CK H d q m) (g : PostAt K CR CP CQ H r m2) (k : Kq r H H') (n : q ≠ r) : DeskAt K CR CP CQ CK H' d q m := by
  obtain ⟨dx, pl, h1, h2, h3⟩ := h
  obtain ⟨dx', p', dd, xs, g1, _⟩ := id g
  have nd : d ≠ r := ne_ins h1 g1 (by rw [q_days, k_days]; exact fun z => nomatch z)
  exact ⟨dx, pl, k _ _ nd nd h1, (Kd.kn g1 q_plan k).plan h2, g.keepKq k h3 n⟩
/-- desk.post = a new post -/
theorem s_post {dx p q0 : Addr} (hd : H d = some (.ins CK dx (dkf p q0))) (hp : PlanIs K CR CP m'.ks m'.rs p H) (TK : TxK K CK) (hv : EvP te σ H (fun q' H' => PostAt K CR CP CQ H' q' m' ∧ H q' = none)) (ho : Ev to σ H (.ref d))
    (k : ∀ q' H', H q' = none → Kq d H H' → DeskAt K CR CP CQ CK H' d q' m' → D.nx σ H') : sFld K to te "post" D σ H := hv H (Ex.refl _) _ fun q' H1 e1 ⟨pa, nq⟩ => ho H1 e1 _ fun H2 e2 => by
  have e12 := e1.trans e2
  have hd2 := e12 _ _ hd
  refine ⟨d, CK, dx, dkf p q0, rfl, hd2, TK.cl, TK.post, by show 2 < 1000; decide, ?_⟩
  have k2 : Kq d H2 (upd H2 d (.ins CK dx (putF "post" (.ref q') (dkf p q0)))) := fun x o n1 _ hx => by
    rw [upd_ne n1]
    exact hx
  have nd : q' ≠ d := fun z => by
    rw [z, hd] at nq
    cases nq
  exact k q' _ nq ((Kq.of e12).trans k2) ⟨dx, p, upd_same.trans (by kernel_rfl), (Kd.kn hd2 k_plan k2).plan (hp.ex e12), Kd.post hd2 k_plan k2 (pa.ex e2) nd⟩
theorem q_post {dx p q0 : Addr} (hd : H d = some (.ins CK dx (dkf p q0))) (hp : PlanIs K CR CP m'.ks m'.rs p H) (TK : TxK K CK) (hv : EvP te σ H (fun q' H' => PostAt K CR CP CQ H' q' m' ∧ H q' = none)) (ho : Ev to σ H (.ref d))
    (k : ∀ q' H', H q' = none → Kq d H H' → DeskAt K CR CP CQ CK H' d q' m' → tz D σ H') : tSeq (sFld K to te "post") tz D σ H := s_post (D := { D with nx := tz D }) hd hp TK hv ho k
theorem q_plan_ {dx p p0 q0 : Addr} {ks : List Str} {rs : List RuleD} (hd : H d = some (.ins CK dx (dkf p0 q0))) (hp : PlanIs K CR CP ks rs p H) (TK : TxK K CK) (hv : Ev te σ H (.ref p)) (ho : Ev to σ H (.ref d))
    (k : ∀ H', Kq d H H' → H' d = some (.ins CK dx (dkf p q0)) → PlanIs K CR CP ks rs p H' → tz D σ H') : tSeq (sFld K to te "plan") tz D σ H := hv H (Ex.refl _) _ fun H1 e1 => ho H1 e1 _ fun H2 e2 => by
  have e12 := e1.trans e2
  have hd2 := e12 _ _ hd
  refine ⟨d, CK, dx, dkf p0 q0, rfl, hd2, TK.cl, TK.plan, by show 2 < 1000; decide, ?_⟩
  have k2 : Kq d H2 (upd H2 d (.ins CK dx (putF "plan" (.ref p) (dkf p0 q0)))) := fun x o n1 _ hx => by
    rw [upd_ne n1]
    exact hx
  exact k _ ((Kq.of e12).trans k2) (upd_same.trans (by kernel_rfl)) ((Kd.kn hd2 k_plan k2).plan (hp.ex e12))
/-- Post(..) -/
theorem evP_postK {t : TA} {dvs : List V} {ks : List Str} {rs : List RuleD} {n : Nat} (h : ∀ H1, Ex H H1 → ∀ Q : List V → Hp → Prop, (∀ p vs H2, Ex H1 H2 → PlanIs K CR CP ks rs p H2 → vs ++ dvs = [.ref p, .int (n : Int)] → Q vs H2) → t σ H1 Q) :
    EvP (tMake CQ (spPostInit K CR CP CQ) dvs E0 t) σ H (fun q H' => PostAt K CR CP CQ H' q ⟨ks, rs, n, []⟩ ∧ H q = none) := fun H1 e1 Q k => h H1 e1 _ fun p vs H2 e2 hp ev => fun x dx nx ndx ne => by
  rw [ev]
  have e3 : Ex H2 (upd (upd H2 dx (.own x)) x (.ins CQ dx [])) := (Ex.new ndx).trans (Ex.new (by rw [upd_ne ne.symm]; exact nx))
  exact ⟨H2, x, p, dx, n, ks, rs, rfl, upd_same, e3, nx, hp, fun H3 e4 pa => ⟨rfl, k x H3 (e2.trans e4) ⟨pa, Evl.fresh_back (e1.trans e2) nx⟩⟩⟩
theorem ev_replJ {a y z : Str} {ys : List Str} {p : Addr} (h : Ev te σ H (.ref p)) (hs : SqL K H p (ys.map V.str)) (b1 : (ys.map (·.length)).sum + ys.length * a.length ≤ 16777216) (b2 : (Txt.join a ys).length + ((Txt.join a ys).length + 1) * z.length ≤ 16777216) : Ev (tReplJ K a y z te) σ H (.str (Txt.replace (Txt.join a ys) y z)) := fun H1 e1 Q k =>
  h H1 e1 _ fun H2 e2 => ⟨p, ys, rfl, .inl (Evl.ex_l (e1.trans e2) hs), b1, b2, k H2 e2⟩
theorem ev_intS {x : Str} {n : Int} (h : Ev te σ H (.str x)) (hn : PySem.intText? x = some n) (hl : x.length ≤ 640) : Ev (tCB (fun xs H Q => ∃ a n, xs = [.str a] ∧ PySem.intText? a = some n ∧ a.length ≤ 640 ∧ Q (.int n) H) (tCons te tNil)) σ H (.int n) := fun H1 e1 Q k =>
  h H1 e1 _ fun H2 e2 => ⟨x, n, rfl, hn, hl, k H2 e2⟩
theorem ev_wordAt {W : Addr} {ws : List Str} {j : Nat} {x : Str} (h : Ev te σ H (.ref W)) (hs : H W = some (.lst (ws.map V.str))) (hj : ws[j]? = some x) : Ev (tOp (rIxL K) te (tC (.int (j : Int)))) σ H (.str x) :=
  Evl.ev_op h Evl.ev_c (Evl.rv_ixL (Evl.sq_of hs) (atI_nat (by rw [List.getElem?_map, hj]; rfl)))
end
theorem sum_join (sep : Str) : ∀ l : List Str, (l.map (·.length)).sum ≤ (Str.join sep l).length
  | [] => Nat.zero_le _
  | [x] => by
    show x.length + 0 ≤ x.length
    omega
  | x :: y :: r => by
    have ih := sum_join sep (y :: r)
    show x.length + ((y :: r).map (·.length)).sum ≤ (x ++ sep ++ Str.join sep (y :: r)).length
    rw [Str.length_append, Str.length_append]
    omega
/-! ### what the desk does -/
abbrev DActs : Type := PySem.W.Frag → Addr → Addr → Addr → Addr → Sp
def spPlanA : DActs := fun K CR CP CQ CK => fun vs H Q _ => ∃ (d q W : Addr) (m : PoM) (ks : List Str) (rs : List RuleD), vs = [.ref d, .ref W] ∧ DeskAt K CR CP CQ CK H d q m ∧ H W = some (.lst ((Txt.split (planWords ks rs) " ").map V.str)) ∧ PlanOk ks rs ∧ (planWords ks rs).length ≤ 35000 ∧ ∀ q' H', H q' = none → Kq d H H' → DeskAt K CR CP CQ CK H' d q' ⟨ks, rs, 1, []⟩ → Q (.str (strI rs.length)) H'
def spPostA : DActs := fun K CR CP CQ CK => fun vs H Q _ => ∃ (d q W : Addr) (m : PoM) (n : Nat), vs = [.ref d, .ref W] ∧ DeskAt K CR CP CQ CK H d q m ∧ H W = some (.lst (([strI n] : List Str).map V.str)) ∧ n < 100 ∧ ∀ q' H', H q' = none → Kq d H H' → DeskAt K CR CP CQ CK H' d q' ⟨m.ks, m.rs, n, []⟩ → Q (.str "done") H'
def spSendA : DActs := fun K CR CP CQ CK => fun vs H Q _ => ∃ (d q W : Addr) (m : PoM) (k : Str) (dy : Option Nat), vs = [.ref d, .ref W] ∧ DeskAt K CR CP CQ CK H d q m ∧ H W = some (.lst ((k :: (match dy with | none => [] | some j => [strI j])).map V.str)) ∧ k ∈ lettersL ∧ (if wholeKind k = true then dy = none else ∃ j, dy = some j ∧ j < m.days) ∧ m.days ≤ 100 ∧ m.ds.length ≤ 1000 ∧ ∀ H', Kq q H H' → DeskAt K CR CP CQ CK H' d q (m.do ⟨none, dy, k⟩) → Q (.str (toString ((m.do ⟨none, dy, k⟩).sent.length - 1 : Int))) H'
def spComeA : DActs := fun K CR CP CQ CK => fun vs H Q _ => ∃ (d q W : Addr) (m : PoM) (g : Str) (i : Nat) (l : L3), vs = [.ref d, .ref W] ∧ DeskAt K CR CP CQ CK H d q m ∧ H W = some (.lst (([g, strI i] : List Str).map V.str)) ∧ nameB g = true ∧ m.sent[i]? = some l ∧ i < 100 ∧ m.ds.length ≤ 1000 ∧ ∀ H', Kq q H H' → DeskAt K CR CP CQ CK H' d q (m.do ⟨some g, l.2.1, evCome i⟩) → Q (.str "done") H'
def seenT (v : Option Nat) : Str := match v with
  | none => "nothing"
  | some i => strI i
def spShowsA : DActs := fun K CR CP CQ CK => fun vs H Q _ => ∃ (d q W : Addr) (m : PoM) (g : Str) (j : Nat) (mm : CM), vs = [.ref d, .ref W] ∧ DeskAt K CR CP CQ CK H d q m ∧ H W = some (.lst (([g, strI j] : List Str).map V.str)) ∧ Plays m g j mm ∧ j < 100 ∧ (∀ i, mm.view = some i → i ≤ 1000) ∧ ∀ H', Ex H H' → Q (.str (seenT mm.view)) H'
def spUndoA : DActs := fun K CR CP CQ CK => fun vs H Q _ => ∃ (d q W : Addr) (m : PoM), vs = [.ref d, .ref W] ∧ DeskAt K CR CP CQ CK H d q m ∧ m.ds.length ≤ 1000 ∧ ∀ H', Kq q H H' → DeskAt K CR CP CQ CK H' d q { m with ds := m.ds.dropLast } → Q (.str (if 0 < m.ds.length then "undone" else "nothing")) H'
def spUndoB (K : PySem.W.Frag) (CR CP CQ : Addr) : Sp := fun vs H Q _ => ∃ (q : Addr) (m : PoM), vs = [.ref q] ∧ PostAt K CR CP CQ H q m ∧ m.ds.length ≤ 4000 ∧ ∀ H', Kq q H H' → PostAt K CR CP CQ H' q { m with ds := m.ds.dropLast } → Q (.bl (decide (0 < m.ds.length))) H'
section
variable {P : Program} {w : World} {K : PySem.W.Frag} {mg : Str → Option Value} {base : Heap} {a_LETTERS a_LETTER_TESTS a_LETTER_DEEDS a_ANSWER_TESTS a_ANSWER_DEEDS CR CP CQ CK : Addr} {tA tN tCm tHd tAn : Tok}
theorem scSayPlan : FnScope ["desk", "words", "plan"] ["desk", "words"] (defScope sSayPlan) := ⟨rfl, rfl, rfl, by decide +kernel, rfl, by decide +kernel, by decide +kernel⟩
theorem scSayPost : FnScope ["desk", "words"] ["desk", "words"] (defScope sSayPost) := ⟨rfl, rfl, rfl, by decide +kernel, rfl, by decide +kernel, by decide +kernel⟩
theorem scSaySend : FnScope ["desk", "words", "day"] ["desk", "words"] (defScope sSaySend) := ⟨rfl, rfl, rfl, by decide +kernel, rfl, by decide +kernel, by decide +kernel⟩
theorem scSayCome : FnScope ["desk", "words"] ["desk", "words"] (defScope sSayCome) := ⟨rfl, rfl, rfl, by decide +kernel, rfl, by decide +kernel, by decide +kernel⟩
theorem scSayShows : FnScope ["desk", "words", "place"] ["desk", "words"] (defScope sSayShows) := ⟨rfl, rfl, rfl, by decide +kernel, rfl, by decide +kernel, by decide +kernel⟩
theorem scSayUndo : FnScope ["desk", "_"] ["desk", "_"] (defScope sSayUndo) := ⟨rfl, rfl, rfl, by decide +kernel, rfl, by decide +kernel, by decide +kernel⟩
theorem ok_undoB {f : Addr} {fd : FuncData} (F : Fun K "undo" "Post.undo" sPostUndo f fd) (TP : TxP K mg CP) (TQ : TxQ K mg CQ tCm tHd tAn) : FnOk P w K mg base CX0 1 f fd ["self"] (spUndoB K CR CP CQ) := by
  refine F.ok scPostUndo (fun vs H Q E h => ?_) (fun cdv A outer s H vs Q E hr h => ?_)
  · obtain ⟨q, m, rfl, _⟩ := h
    rfl
  · obtain ⟨a, m, rfl, pa, hl, q⟩ := h
    obtain ⟨dx, p, dd, xs, h1, h2, h3, h4⟩ := id pa
    refine ⟨_, pss_cons (ps_set (i := 1) scPostUndo.nd rfl (.inl rfl) (pe_cmpR op_gt (pe_callB call_len_seq (by rfl) TP.n_len (by decide +kernel) (pa_cons (pe_fld (pv 0) rfl) pa_nil)) pe_int (nomark _)))
      (pss_cons (ps_fld (pv 0) (pe_slice sl_tupA (pe_fld (pv 0) rfl) po_none (po_some (pe_un un_neg pe_int))) rfl)
      (pss_one (ps_ret (pv 1)))), ?_⟩
    have lx := paired_len h4
    refine Evl.q_asg (v := .bl (decide (0 < m.ds.length))) (Evl.ev_is (Evl.ev_op (ev_lenT (ev_fld (Evl.ev_var rfl) h1 TQ.cl TQ.deeds q_deeds) h3) Evl.ev_c Evl.rv_I0) (by
      show V.bl (decide ((xs.length : Int) > 0)) = _
      rw [lx]
      exact congrArg V.bl (decide_eq_decide.mpr (by omega)))) fun H1 e1 => ?_
    refine qs_deeds (ds := m.ds.dropLast) (pa.ex e1) TQ.cl TQ.deeds (fun Q' k' => ?_) (fun H1 e1 => Evl.ev_var rfl) fun H2 k2 p2 => ?_
    · exact (ev_slA (xs := xs) (ev_fld (Evl.ev_var rfl) (e1 _ _ h1) TQ.cl TQ.deeds q_deeds) Evl.eo_none (Evl.eo_some (Evl.ev_un Evl.ev_c Evl.ru_neg)) (Evl.ex_t e1 h3)) H1 (Ex.refl _) _ fun t H2 e2 st => k' t _ H2 e2 st (deeds_cut (h4.keep fun _ _ z => (e1.trans e2) _ _ z))
    · exact Evl.s_ret (v := .bl (decide (0 < m.ds.length))) (Evl.ev_var rfl) fun H3 e3 => q H3 (((Kq.of e1).trans k2).trans (Kq.of e3)) (p2.ex e3)
theorem ok_say_plan {f fPl fQI pP gP : Addr} {fd fdPl fdQI : FuncData} {mcP : Value} {dsQ : List Value} (F : Fun K "say_plan" "say_plan" sSayPlan f fd) (T : TxR K mg a_LETTERS a_LETTER_TESTS a_LETTER_DEEDS a_ANSWER_TESTS a_ANSWER_DEEDS CR tA tN) (TP : TxP K mg CP) (TK : TxK K CK) (g_Post : mg "Post" = some (.ref CQ))
    (M_plen : Meth K CP "__len__" fPl) (G_plen : FnOk P w K mg base CX0 1 fPl fdPl ["self"] (spPlanLen K CP)) (b_plen : Binds K fdPl ["self"] [])
    (mkQ : Mk K CQ fQI) (Q_qinit : FnOk P w K mg base CX0 1 fQI fdQI ["self", "plan", "days"] (spPostInit K CR CP CQ)) (b_qinit1 : Binds K fdQI ["self", "plan", "days"] dsQ) (dvQ : Vals [.int 1] dsQ)
    (rdP : ClX.CRead K CP mcP) (cmP : ClX.CMet K CP mcP "read" pP gP) (G_readP : FnR P w K mg base CX0 6 gP (spPlanReadG K CR CP sortedOf)) : FnOk P w K mg base CX0 9 f fd ["desk", "words"] (spPlanA K CR CP CQ CK) := by
  refine F.ok scSayPlan (fun vs H Q E h => ?_) (fun cdv A outer s H vs Q E hr h => ?_)
  · obtain ⟨d, q, W, m, ks, rs, rfl, _⟩ := h
    rfl
  · obtain ⟨d, q0, W, m, ks, rs, rfl, da, hW, po, hz, q⟩ := h
    obtain ⟨dx, p0, hd, hp0, pa0⟩ := id da
    refine ⟨_, pss_cons (ps_set (i := 2) scSayPlan.nd rfl (.inl rfl) (ClX.pe_cmeth (E := E0) (pe_glob (v := .ref CP) rfl TP.g_Plan rfl) rdP cmP G_readP (hr.mono (by decide)) pass0 (pa_cons (pe_replJ (pv 1)) pa_nil)))
      (pss_cons (ps_fld (pv 0) (pv 2) rfl)
      (pss_cons (ps_fld (pv 0) (pe_make (sp := spPostInit K CR CP CQ) (E := E0) mkQ Q_qinit (hr.mono (by decide)) rfl g_Post b_qinit1 dvQ pass0 (pa_cons (pv 2) pa_nil)) rfl)
      (pss_one (ps_ret (pe_callTy call_str_int (by rfl) T.n_str (by decide +kernel) (pa_cons (pe_callB (r := rLenI CP (spPlanLen K CP) E0) (call_lenI G_plen (hr.mono (by decide)) M_plen.at_ M_plen.fn b_plen pass0) (by rfl) TP.n_len (by decide +kernel) (pa_cons (pv 2) pa_nil)) pa_nil)))))), ?_⟩
    have hk := (sub_good po.sl).2.2
    have js : Txt.join " " (Txt.split (planWords ks rs) " ") = planWords ks rs := (PySem.StrLaws.glued_eq_join _ _).trans (PySem.StrLaws.join_split _ _)
    have sl := sum_join " " (Txt.split (planWords ks rs) " ")
    rw [show Str.join " " (Txt.split (planWords ks rs) " ") = planWords ks rs from PySem.StrLaws.join_split _ _] at sl
    have ln := split_len (planWords ks rs)
    have l1 : (" " : Str).length = 1 := by decide +kernel
    have l2 : ("\n" : Str).length = 1 := by decide +kernel
    refine q_put ((evP_read (K := K) (CR := CR) (CP := CP) (ks := ks) (rs := rs) (Evl.ev_is (ev_replJ (K := K) (ys := Txt.split (planWords ks rs) " ") (Evl.ev_var rfl) (Evl.sq_of hW) (by rw [l1]; omega) (by rw [js, l2]; omega)) (by rw [js, plan_back hk po.g])) po) H (Ex.refl _) _ fun p H1 e1 pp => ?_)
    refine q_plan_ (e1 _ _ hd) pp TK (Evl.ev_var rfl) (Evl.ev_var rfl) fun H2 k2 hd2 pp2 => ?_
    refine q_post (m' := ⟨ks, rs, 1, []⟩) hd2 pp2 TK (evP_postK (n := 1) fun H3 e3 Q3 q3 => (Evl.ea_cons (Evl.ev_var rfl) Evl.ea_nil) H3 (Ex.refl _) _ fun H4 e4 => q3 p _ H4 e4 (pp2.ex (e3.trans e4)) rfl) (Evl.ev_var rfl) fun q' H3 nq k3 da3 => ?_
    have k13 : Kq d H H3 := ((Kq.of e1).trans k2).trans k3
    have pp3 : PlanIs K CR CP ks rs p H3 := (Kd.kn hd2 k_plan k3).plan pp2
    have nqH : H q' = none := by
      cases e : H q' with
      | none => rfl
      | some o =>
        by_cases z : q' = d
        · rw [z, hd2] at nq
          cases nq
        · have := ((Kq.of e1).trans k2) _ _ z z e
          rw [this] at nq
          cases nq
    exact Evl.s_ret (v := .str (strI rs.length)) (ev_strInt (n := (rs.length : Int)) (ev_lenP (EvP.of (Evl.ev_var rfl) fun H4 e4 => pp3.ex e4) po.hz) (Nat.lt_of_lt_of_le (log_small (k := 20) (by have := po.hz; simp; omega) (by decide)) (by decide))) fun H4 e4 => q q' H4 nqH (k13.trans (Kq.of e4)) (da3.ext e4)
theorem ok_say_post {f fQI : Addr} {fd fdQI : FuncData} (F : Fun K "say_post" "say_post" sSayPost f fd) (T : TxR K mg a_LETTERS a_LETTER_TESTS a_LETTER_DEEDS a_ANSWER_TESTS a_ANSWER_DEEDS CR tA tN) (TP : TxP K mg CP) (TK : TxK K CK) (g_Post : mg "Post" = some (.ref CQ))
    (mkQ : Mk K CQ fQI) (Q_qinit : FnOk P w K mg base CX0 1 fQI fdQI ["self", "plan", "days"] (spPostInit K CR CP CQ)) (b_qinit : Binds K fdQI ["self", "plan", "days"] []) : FnOk P w K mg base CX0 9 f fd ["desk", "words"] (spPostA K CR CP CQ CK) := by
  refine F.ok scSayPost (fun vs H Q E h => ?_) (fun cdv A outer s H vs Q E hr h => ?_)
  · obtain ⟨d, q, W, m, n, rfl, _⟩ := h
    rfl
  · obtain ⟨d, q0, W, m, n, rfl, da, hW, hn, q⟩ := h
    obtain ⟨dx, p0, hd, hp0, pa0⟩ := id da
    obtain ⟨n1, n2, n3, n4, n5⟩ := num_read n hn
    refine ⟨_, pss_cons (ps_fld (pv 0) (pe_make (sp := spPostInit K CR CP CQ) (E := E0) mkQ Q_qinit (hr.mono (by decide)) rfl g_Post b_qinit .nil pass0 (pa_cons (pe_fld (pv 0) rfl) (pa_cons (pe_callTy call_int_str (by rfl) T.n_int (by decide +kernel) (pa_cons (pe_ix ix_list (pv 1) pe_int (fun _ _ => rfl)) pa_nil)) pa_nil))) rfl)
      (pss_one (ps_ret pe_str)), ?_⟩
    refine q_post (m' := ⟨m.ks, m.rs, n, []⟩) hd hp0 TK (evP_postK (n := n) fun H3 e3 Q3 q3 => ?_) (Evl.ev_var rfl) fun q' H3 nq k3 da3 => Evl.s_ret (v := .str "done") Evl.ev_c fun H4 e4 => q q' H4 nq (k3.trans (Kq.of e4)) (da3.ext e4)
    exact (Evl.ea_cons (ev_fld (Evl.ev_var rfl) (e3 _ _ hd) TK.cl TK.plan k_plan) (Evl.ea_cons (ev_intS (ev_wordAt (K := K) (j := 0) (Evl.ev_var rfl) (e3 _ _ hW) rfl) n5 (by omega)) Evl.ea_nil)) H3 (Ex.refl _) _ fun H4 e4 => q3 p0 _ H4 e4 (hp0.ex (e3.trans e4)) rfl
end
end Ov


namespace Ov
open PySem PySem.Spec PyProof.Rows L2
open Evl (pss_cut tCut Ex Ev EvT EvL EvA EvU)
open TL (tl pre spl joinL spl_hit spl_miss spl_nil tl_append map_tl_inj spl_part1)
/-! ### the desk and its post -/
theorem ret_goK {te : TE} {D : Ends} {σ : L2.St} {H : Hp} (h : te σ H fun v H1 => D.rt v H1) : tRet te D σ H := h
theorem cb_goK {r : List V → Hp → VK → Prop} {te : TE} {σ : L2.St} {H : Hp} {Q : VK} (h : te σ H fun x H1 => r [x] H1 Q) : tCB r (tCons te tNil) σ H Q := h
theorem drop_goK {te : TE} {tz : TS} {D : Ends} {σ : L2.St} {H : Hp} (h : te σ H fun _ H1 => tz D σ H1) : tSeq (tDrop te) tz D σ H := h
theorem asg_goK {te : TE} {i : Nat} {tz : TS} {D : Ends} {σ : L2.St} {H : Hp} (h : te σ H fun v H1 => tz D (σ.set i (some v)) H1) : tSeq (tAsg te (gName i)) tz D σ H := h
section
variable {K : PySem.W.Frag} {CR CP CQ CK : Addr} {H : Hp} {d q : Addr} {m : PoM} {σ : L2.St} {to : TE} {tr : TA} {vs dvs : List V} {Q : VK}
theorem desk_meth {sp : Sp} {x : Str} (da : DeskAt K CR CP CQ CK H d q m) (TK : TxK K CK) (ho : Ev to σ H (.ref d)) (n : x ≠ ("plan" : Str) ∧ x ≠ ("days" : Str) ∧ x ≠ ("deeds" : Str)) (ha : EvA tr σ H vs) (hs : ∀ H1, Ex H H1 → PostAt K CR CP CQ H1 q m → sp (.ref q :: (vs ++ dvs)) H1 Q E0) :
    tMeth CQ x sp dvs E0 (tFld K to "post") tr σ H Q := by
  obtain ⟨dx, p, hd, hp, pa⟩ := da
  exact (ev_fld ho hd TK.cl TK.post k_post) H (Ex.refl _) _ fun H1 e1 => by
    obtain ⟨dx', fs, h1, h2⟩ := (pa.ex e1).fld
    exact ⟨q, dx', fs, rfl, h1, h2 x n.1 n.2.1 n.2.2, ha H1 e1 _ fun H2 e2 => hs H2 (e1.trans e2) (pa.ex (e1.trans e2))⟩
end
/-- what a command is, its words given -/
structure CmdOf (z n : Str) (ws : List Str) : Prop where
  hz : z.length ≤ 15000
  nl : 10 ∉ tl z
  sp : Txt.split z " " = n :: ws
  ne : ("" : Str) ∉ n :: ws
  fm : ∃ fs bs, formsD.lookup n = some fs ∧ fs.length ≤ 10 ∧ Paired (HasForm ws) fs bs ∧ bs.any id = true
def spSayX (z0 : Str) (act : Sp) : Sp := fun vs H Q E => ∃ (d : Addr) (z : Str) (ws : List Str), vs = [.ref d, .str z] ∧ CmdOf z z0 ws ∧ ∀ W H', H W = none → Ex H H' → H' W = some (.lst (ws.map V.str)) → act [.ref d, .ref W] H' Q E0
section
variable {P : Program} {w : World} {K : PySem.W.Frag} {mg : Str → Option Value} {base : Heap} {a_LETTERS a_LETTER_TESTS a_LETTER_DEEDS a_ANSWER_TESTS a_ANSWER_DEEDS CR CP CQ CK aF aG aA : Addr} {tA tN tCm tHd tAn tM tNu : Tok}
theorem ok_say_send {f qSe : Addr} {fd fqSe : FuncData} (F : Fun K "say_send" "say_send" sSaySend f fd) (T : TxR K mg a_LETTERS a_LETTER_TESTS a_LETTER_DEEDS a_ANSWER_TESTS a_ANSWER_DEEDS CR tA tN) (TP : TxP K mg CP) (TQ : TxQ K mg CQ tCm tHd tAn) (TK : TxK K CK)
    (M_send : Meth K CQ "send" qSe) (G_send : FnOk P w K mg base CX0 3 qSe fqSe ["self", "kind", "day"] (spSendP K CR CP CQ)) (b_send : Binds K fqSe ["self", "kind", "day"] []) : FnOk P w K mg base CX0 9 f fd ["desk", "words"] (spSendA K CR CP CQ CK) := by
  refine F.ok scSaySend (fun vs H Q E h => ?_) (fun cdv A outer s H vs Q E hr h => ?_)
  · obtain ⟨d, q, W, m, k, dy, rfl, _⟩ := h
    rfl
  · obtain ⟨d, q, W, m, k, dy, rfl, da, hW, hk, hdy, hdl, hl, q1⟩ := h
    refine ⟨_, pss_cons (ps_set (i := 2) scSaySend.nd rfl (.inl rfl) (pe_ifExp (pt_cmpR op_gt (pe_callB call_len_seq (by rfl) TP.n_len (by decide +kernel) (pa_cons (pv 1) pa_nil)) pe_int (nomark _)) (pe_callTy call_int_str (by rfl) T.n_int (by decide +kernel) (pa_cons (pe_ix ix_list (pv 1) pe_int (fun _ _ => rfl)) pa_nil)) pe_non))
      (pss_one (ps_ret (pe_callTy call_str_int (by rfl) T.n_str (by decide +kernel) (pa_cons (pe_meth (E := E0) (pe_fld (pv 0) rfl) TQ.cl M_send G_send (hr.mono (by decide)) b_send .nil pass0 (pa_cons (pe_ix ix_list (pv 1) pe_int (fun _ _ => rfl)) (pa_cons (pv 2) pa_nil))) pa_nil)))), ?_⟩
    have w0 : ∃ xs : List Str, H W = some (.lst (xs.map V.str)) ∧ xs[0]? = some k := ⟨_, hW, rfl⟩
    obtain ⟨xs, hx, hx0⟩ := w0
    refine Evl.q_asg (v := ov dy) ?_ fun H1 e1 => ?_
    · cases dy with
      | none => exact Evl.ev_if (b := false) (Evl.et_is (Evl.et_test (Evl.ev_op (Evl.ev_len (Evl.ev_var rfl) (Evl.sq_of hW)) Evl.ev_c Evl.rv_I0)) rfl) (fun z => nomatch z) (fun _ => Evl.ev_c)
      | some j =>
        have hj : j < m.days := by
          by_cases c : wholeKind k = true
          · rw [if_pos c] at hdy
            cases hdy
          · rw [if_neg c] at hdy
            obtain ⟨j', h1, h2⟩ := hdy
            cases h1
            exact h2
        obtain ⟨n1, n2, n3, n4, n5⟩ := num_read j (by omega)
        exact Evl.ev_if (b := true) (Evl.et_is (Evl.et_test (Evl.ev_op (Evl.ev_len (Evl.ev_var rfl) (Evl.sq_of hW)) Evl.ev_c Evl.rv_I0)) rfl) (fun _ => ev_intS (ev_wordAt (K := K) (j := 1) (Evl.ev_var rfl) hW rfl) n5 (by omega)) (fun z => nomatch z)
    refine ret_goK (cb_goK ?_)
    refine desk_meth (vs := [.str k, ov dy]) (da.ext e1) TK (Evl.ev_var rfl) ⟨by decide, by decide, by decide⟩ (Evl.ea_cons (ev_wordAt (K := K) (j := 0) (Evl.ev_var rfl) (e1 _ _ hx) hx0) (Evl.ea_cons (Evl.ev_var rfl) Evl.ea_nil)) fun H2 e2 pa => ⟨q, m, k, dy, rfl, pa, hk, hdy, by omega, fun H3 k3 p3 => ⟨_, rfl, ?_, ?_⟩⟩
    · have a1 := sent_len_le (m.do ⟨none, dy, k⟩)
      have a2 : (m.do ⟨none, dy, k⟩).ds.length = m.ds.length + 1 := by
        show (m.ds ++ [_]).length = _
        rw [List.length_append]
        rfl
      exact Nat.lt_of_lt_of_le (log_small (k := 20) (Nat.lt_of_le_of_lt (show ((m.do ⟨none, dy, k⟩).sent.length - 1 : Int).natAbs ≤ 2000 by omega) (by decide)) (by decide)) (by decide)
    · exact q1 H3 ((Kq.of (e1.trans e2)).trans k3) ((da.ext (e1.trans e2)).kq k3 p3 rfl rfl)
theorem ok_say_come {f qCo : Addr} {fd fqCo : FuncData} (F : Fun K "say_come" "say_come" sSayCome f fd) (T : TxR K mg a_LETTERS a_LETTER_TESTS a_LETTER_DEEDS a_ANSWER_TESTS a_ANSWER_DEEDS CR tA tN) (TP : TxP K mg CP) (TQ : TxQ K mg CQ tCm tHd tAn) (TK : TxK K CK)
    (M_come : Meth K CQ "come" qCo) (G_come : FnOk P w K mg base CX0 3 qCo fqCo ["self", "guest", "place"] (spComeP K CR CP CQ)) (b_come : Binds K fqCo ["self", "guest", "place"] []) : FnOk P w K mg base CX0 9 f fd ["desk", "words"] (spComeA K CR CP CQ CK) := by
  refine F.ok scSayCome (fun vs H Q E h => ?_) (fun cdv A outer s H vs Q E hr h => ?_)
  · obtain ⟨d, q, W, m, g, i, l, rfl, _⟩ := h
    rfl
  · obtain ⟨d, q, W, m, g, i, l, rfl, da, hW, hn, hi, hi2, hl, q1⟩ := h
    obtain ⟨n1, n2, n3, n4, n5⟩ := num_read i hi2
    refine ⟨_, pss_cons (ps_expr (pe_meth (E := E0) (pe_fld (pv 0) rfl) TQ.cl M_come G_come (hr.mono (by decide)) b_come .nil pass0 (pa_cons (pe_ix ix_list (pv 1) pe_int (fun _ _ => rfl)) (pa_cons (pe_callTy call_int_str (by rfl) T.n_int (by decide +kernel) (pa_cons (pe_ix ix_list (pv 1) pe_int (fun _ _ => rfl)) pa_nil)) pa_nil))))
      (pss_one (ps_ret pe_str)), ?_⟩
    refine drop_goK ?_
    refine desk_meth (vs := [.str g, .int (i : Int)]) da TK (Evl.ev_var rfl) ⟨by decide, by decide, by decide⟩ (Evl.ea_cons (ev_wordAt (K := K) (j := 0) (Evl.ev_var rfl) hW rfl) (Evl.ea_cons (ev_intS (ev_wordAt (K := K) (j := 1) (Evl.ev_var rfl) hW rfl) n5 (by omega)) Evl.ea_nil)) fun H2 e2 pa => ⟨q, m, g, i, l, rfl, pa, hn, hi, by omega, by omega, fun H3 k3 p3 => ?_⟩
    exact Evl.s_ret (v := .str "done") Evl.ev_c fun H4 e4 => q1 H4 (((Kq.of e2).trans k3).trans (Kq.of e4)) (((da.ext e2).kq k3 p3 rfl rfl).ext e4)
theorem ok_say_shows {f qLk : Addr} {fd fqLk : FuncData} (F : Fun K "say_shows" "say_shows" sSayShows f fd) (T : TxR K mg a_LETTERS a_LETTER_TESTS a_LETTER_DEEDS a_ANSWER_TESTS a_ANSWER_DEEDS CR tA tN) (TP : TxP K mg CP) (TQ : TxQ K mg CQ tCm tHd tAn) (TK : TxK K CK)
    (M_look : Meth K CQ "look" qLk) (G_look : FnOk P w K mg base CX0 8 qLk fqLk ["self", "guest", "day"] (spLookP K CR CP CQ)) (b_look : Binds K fqLk ["self", "guest", "day"] []) : FnOk P w K mg base CX0 9 f fd ["desk", "words"] (spShowsA K CR CP CQ CK) := by
  refine F.ok scSayShows (fun vs H Q E h => ?_) (fun cdv A outer s H vs Q E hr h => ?_)
  · obtain ⟨d, q, W, m, g, j, mm, rfl, _⟩ := h
    rfl
  · obtain ⟨d, q, W, m, g, j, mm, rfl, da, hW, hp, hj, hv, q1⟩ := h
    obtain ⟨n1, n2, n3, n4, n5⟩ := num_read j hj
    refine ⟨_, pss_cons (ps_set (i := 2) scSayShows.nd rfl (.inl rfl) (pe_meth (E := E0) (pe_fld (pv 0) rfl) TQ.cl M_look G_look (hr.mono (by decide)) b_look .nil pass0 (pa_cons (pe_ix ix_list (pv 1) pe_int (fun _ _ => rfl)) (pa_cons (pe_callTy call_int_str (by rfl) T.n_int (by decide +kernel) (pa_cons (pe_ix ix_list (pv 1) pe_int (fun _ _ => rfl)) pa_nil)) pa_nil))))
      (pss_one (ps_ret (pe_ifExp (pt_cmpR op_isN (pv 2) pe_non (nomark _)) pe_str (pe_callTy call_str_int (by rfl) T.n_str (by decide +kernel) (pa_cons (pv 2) pa_nil))))), ?_⟩
    refine asg_goK ?_
    refine desk_meth (vs := [.str g, .int (j : Int)]) da TK (Evl.ev_var rfl) ⟨by decide, by decide, by decide⟩ (Evl.ea_cons (ev_wordAt (K := K) (j := 0) (Evl.ev_var rfl) hW rfl) (Evl.ea_cons (ev_intS (ev_wordAt (K := K) (j := 1) (Evl.ev_var rfl) hW rfl) n5 (by omega)) Evl.ea_nil)) fun H2 e2 pa => ⟨q, m, g, j, mm, rfl, pa, hp, fun H3 e3 => ?_⟩
    refine Evl.s_ret (v := .str (seenT mm.view)) ?_ fun H4 e4 => q1 H4 ((e2.trans e3).trans e4)
    cases ev : mm.view with
    | none => exact Evl.ev_if (b := true) (Evl.et_is (Evl.et_test (Evl.ev_op (Evl.ev_var rfl) Evl.ev_c rv_isN)) rfl) (fun _ => Evl.ev_c) (fun z => nomatch z)
    | some i => exact Evl.ev_if (b := false) (Evl.et_is (Evl.et_test (Evl.ev_op (Evl.ev_var rfl) Evl.ev_c rv_isN)) rfl) (fun z => nomatch z) (fun _ => ev_strInt (n := (i : Int)) (Evl.ev_var rfl) (Nat.lt_of_lt_of_le (log_small (k := 20) (Nat.lt_of_le_of_lt (show ((i : Int)).natAbs ≤ 2000 by have := hv i ev; omega) (by decide)) (by decide)) (by decide)))
theorem ok_say_undo {f qUn : Addr} {fd fqUn : FuncData} (F : Fun K "say_undo" "say_undo" sSayUndo f fd) (TQ : TxQ K mg CQ tCm tHd tAn) (TK : TxK K CK)
    (M_undo : Meth K CQ "undo" qUn) (G_undo : FnOk P w K mg base CX0 1 qUn fqUn ["self"] (spUndoB K CR CP CQ)) (b_undo : Binds K fqUn ["self"] []) : FnOk P w K mg base CX0 9 f fd ["desk", "_"] (spUndoA K CR CP CQ CK) := by
  refine F.ok scSayUndo (fun vs H Q E h => ?_) (fun cdv A outer s H vs Q E hr h => ?_)
  · obtain ⟨d, q, W, m, rfl, _⟩ := h
    rfl
  · obtain ⟨d, q, W, m, rfl, da, hl, q1⟩ := h
    refine ⟨_, pss_one (ps_ret (pe_ifExp (pt_truth (pe_meth0 (E := E0) (pe_fld (pv 0) rfl) TQ.cl M_undo G_undo (hr.mono (by decide)) b_undo .nil pass0) (by intro _; rfl)) pe_str pe_str)), ?_⟩
    refine ret_goK ?_
    refine desk_meth (vs := []) (dvs := []) da TK (Evl.ev_var rfl) ⟨by decide, by decide, by decide⟩ Evl.ea_nil fun H2 e2 pa => ⟨q, m, rfl, pa, by omega, fun H3 k3 p3 => ⟨_, rfl, ?_⟩⟩
    have fin : ∀ z : Str, z = (if 0 < m.ds.length then ("undone" : Str) else "nothing") → Q (.str z) H3 := fun z e => by
      rw [e]
      exact q1 H3 ((Kq.of e2).trans k3) ((da.ext e2).kq k3 p3 rfl rfl)
    by_cases c : 0 < m.ds.length
    · rw [decide_eq_true c]
      exact iteT (fin _ (if_pos c).symm)
    · rw [decide_eq_false c]
      exact iteF (fin _ (if_neg c).symm)
theorem scDeskSay : FnScope ["self", "command", "name", "words", "action"] ["self", "command"] (defScope sDeskSay) := ⟨rfl, rfl, rfl, by decide +kernel, rfl, by decide +kernel, by decide +kernel⟩
theorem ok_say {n : Str} {act : Sp} {f fA fW fH fI fR : Addr} {fd fdA fdW fdH fdI fdR : FuncData} {psA : List Str} (F : Fun K "say" "Desk.say" sDeskSay f fd) (T : TxR K mg a_LETTERS a_LETTER_TESTS a_LETTER_DEEDS a_ANSWER_TESTS a_ANSWER_DEEDS CR tA tN) (TF : TxF K w mg aF aG tM tNu) (g_ACTIONS : mg "ACTIONS" = some (.ref aA))
    (D_read_place : Df K mg "read_place" sReadPlace ["value", "word", "many"] fR fdR) (D_is_of : Df K mg "is_of" sIsOf ["word", "sort"] fI fdI) (D_has_form : Df K mg "has_form" sHasForm ["words", "form"] fH fdH) (D_words_of : Df K mg "words_of" sWordsOf ["command"] fW fdW)
    (kA : KDct K w aA n (.ref fA)) (G_act : FnOk P w K mg base CX0 9 fA fdA psA act) (kpA : PySem.W.keepIn K (.ref fA) = true) (bA : Binds K fdA psA []) : FnOk P w K mg base CX0 10 f fd ["self", "command"] (spSayX n act) := by
  have G_words_of : FnOk P w K mg base CX0 4 fW fdW ["command"] spWordsOf := ok_words_of D_words_of.F T TF D_read_place D_is_of D_has_form
  refine F.ok scDeskSay (fun vs H Q E h => ?_) (fun cdv A outer s H vs Q E hr h => ?_)
  · obtain ⟨d, z, ws, rfl, _⟩ := h
    rfl
  · obtain ⟨d, z, ws, rfl, ⟨hz, nl, hs, ne, fs, bs, hf, hfl, hp, hb⟩, q⟩ := h
    refine ⟨_, pss_cons (ps_asg (pe_call (E := E0) G_words_of (hr.mono (by decide)) rfl D_words_of.g D_words_of.F.kp D_words_of.b .nil pass0 (pa_cons (pv 1) pa_nil)) (pg_first (by rfl) (pgs_cons (pg_name (i := 2) scDeskSay.nd rfl (Or.inl rfl)) (pgs_star (pg_name (i := 3) scDeskSay.nd rfl (Or.inl rfl))))))
      (pss_cons (ps_set (i := 4) scDeskSay.nd rfl (.inl rfl) (pe_ix ix_kdict (pe_glob (v := .ref aA) rfl g_ACTIONS rfl) (pv 2) (fun _ _ => rfl)))
      (pss_one (ps_ret (pe_callL (i := 4) (f := fA) (sp := act) (dvs := []) (E := E0) G_act (hr.mono (by decide)) rfl (.inl rfl) kpA bA .nil pass0 (pa_cons (pv 0) (pa_cons (pv 3) pa_nil)))))), ?_⟩
    have wl := split_len z
    rw [hs, List.length_cons] at wl
    refine ⟨_, rfl, z, n, ws, fs, bs, rfl, by omega, nl, hs, ne, hf, hfl, hp, hb, fun L H1 nL e1 hL => ?_⟩
    refine ⟨L, .str n, ws.map V.str, rfl, Evl.sq_of hL, by rw [List.length_map]; omega, fun p np => ?_⟩
    have e2 : Ex H1 (upd H1 p (.lst (ws.map V.str))) := Ex.new np
    refine ⟨_, _, rfl, _, _, rfl, rfl, ?_⟩
    refine ⟨_, rfl, aA, n, _, rfl, rfl, kA, ?_⟩
    refine ⟨rfl, _, rfl, _, rfl, ?_⟩
    exact q p _ (Evl.fresh_back e1 np) (e1.trans e2) upd_same
end
end Ov


namespace Ov
open PySem PySem.Spec PyProof.Rows L2
open Evl (pss_cut tCut Ex Ev EvT EvL EvA EvU)
/-! ### helpers: new tuples of texts, new rules -/
abbrev EvTu (te : TE) (σ : L2.St) (H : Hp) (l : List Str) : Prop := EvP te σ H (fun t H2 => H2 t = some (.tup (l.map V.str)))
section
variable {K : PySem.W.Frag} {σ : L2.St} {H : Hp} {ta tb te tk : TE} {D : Ends} {tz : TS} {r : RuleD}
theorem eu_tu {l : List Str} (h : EvU te σ H (l.map V.str)) : EvTu te σ H l := fun H1 e1 Q q => h H1 e1 _ fun p H2 _ e2 hp => q p H2 e2 hp
theorem evr_tup {k : Str} {ts ds : List Str} (hk : Ev tk σ H (.str k)) (ht : EvTu ta σ H ts) (hd : EvTu tb σ H ds) : EvP (tTup (tCons tk (tCons ta (tCons tb tNil)))) σ H (fun p H2 => RuleAt H2 p ⟨k, ts, ds⟩) := fun H1 e1 Q q =>
  hk H1 e1 _ fun H2 e2 => ht H2 (e1.trans e2) _ fun t H3 e3 h3 => hd H3 ((e1.trans e2).trans e3) _ fun d H4 e4 h4 => ⟨size_of (by show 3 ≤ 100000; decide), fun p np =>
    q p _ (((e2.trans e3).trans e4).trans (Ex.new np)) ⟨t, d, upd_same, (Ex.new np) _ _ (e4 _ _ h3), (Ex.new np) _ _ h4⟩⟩
theorem tu_var {i : Nat} {t : Addr} {l : List Str} (h : σ[i]? = some (some (.ref t))) (ht : H t = some (.tup (l.map V.str))) : EvTu (tVar i) σ H l := fun H1 e1 Q q => (Evl.ev_var h) H1 e1 _ fun H2 e2 => q t H2 e2 (e2 _ _ (e1 _ _ ht))
theorem tu_cat {xs ys : List Str} (ha : EvTu ta σ H xs) (hb : EvTu tb σ H ys) (hz : xs.length + ys.length ≤ 100000) : EvTu (tOp (rCatA K) ta tb) σ H (xs ++ ys) := fun H1 e1 Q q =>
  ha H1 e1 _ fun t H2 e2 st => hb H2 (e1.trans e2) _ fun u H3 e3 su => by
    have st3 := e3 _ _ st
    refine ⟨t, u, _, _, rfl, rfl, Evl.st_of st3, Evl.st_of su, size_of (by rw [List.length_map, List.length_map]; exact hz), fun h0 => q u H3 (e2.trans e3) ?_, fun _ h0 => q t H3 (e2.trans e3) ?_, fun _ _ p np => q p _ ((e2.trans e3).trans (Ex.new np)) ?_⟩
    · rw [List.map_append, h0]
      exact su
    · rw [List.map_append, h0, List.append_nil]
      exact st3
    · exact Eq.trans upd_same (by rw [List.map_append])
theorem tu_sl {to th : TO} {a : Addr} {xs : List Str} {lo hi : Option Int} {ys : List Str} (h : Ev te σ H (.ref a)) (h1 : Evl.EvO to σ H lo) (h2 : Evl.EvO th σ H hi) (hs : H a = some (.tup (xs.map V.str))) (e : cutV (xs.map V.str) lo hi = ys.map V.str) : EvTu (tSl (rSlA K) te to th) σ H ys := fun H1 e1 Q q =>
  h H1 e1 _ fun H2 e2 => h1 H2 (e1.trans e2) _ fun H3 e3 => h2 H3 ((e1.trans e2).trans e3) _ fun H4 e4 => by
    have s4 := (((e1.trans e2).trans e3).trans e4) _ _ hs
    refine ⟨a, _, rfl, Evl.st_of s4, fun w => q a H4 ((e2.trans e3).trans e4) ?_, fun _ p np => q p _ (((e2.trans e3).trans e4).trans (Ex.new np)) ?_⟩
    · rw [← e]
      unfold cutV
      rw [w.1, w.2, List.drop_zero, Nat.sub_zero, List.take_length]
      exact s4
    · exact Eq.trans upd_same (by rw [e])
theorem ev_catS {x y : Str} (ha : Ev ta σ H (.str x)) (hb : Ev tb σ H (.str y)) (hz : x.length + y.length ≤ 100000) : Ev (tOp (fun x y H Q => ∃ i j, x = V.str i ∧ y = V.str j ∧ i.length + j.length ≤ sizeLine ∧ Q (V.str (i ++ j)) H) ta tb) σ H (.str (x ++ y)) := Evl.ev_op ha hb fun H1 e Q q => ⟨_, _, rfl, rfl, size_of hz, q H1 (Ex.refl _)⟩
theorem at_lst1 {Q : VK} (h : te σ H fun x H1 => [x].length ≤ sizeLine ∧ ∀ p, H1 p = none → Q (.ref p) (upd H1 p (.lst [x]))) : tLst (tCons te tNil) σ H Q := h
theorem s_appR {l : Addr} {xs : List V} (hl : H l = some (.lst xs)) (ha : Ev ta σ H (.ref l)) (h : EvP te σ H (fun p H2 => RuleAt H2 p r)) (hz : xs.length < 100000) (k : ∀ p H1, Ex H H1 → RuleAt H1 p r → D.nx σ (upd H1 l (.lst (xs ++ [.ref p])))) :
    tDrop (tBM K "list" rAppend ta (tCons te tNil)) D σ H := ha H (Ex.refl H) _ fun H1 e1 =>
  ⟨Or.inl ⟨rfl, xs, Evl.sq_of (e1 l _ hl)⟩, h H1 e1 _ fun p H2 e2 h2 => ⟨l, xs, .ref p, rfl, rfl, e2 l _ (e1 l _ hl), Evl.sz_lt hz, k p H2 (e1.trans e2) h2⟩⟩
theorem q_appR {l : Addr} {xs : List V} (hl : H l = some (.lst xs)) (ha : Ev ta σ H (.ref l)) (h : EvP te σ H (fun p H2 => RuleAt H2 p r)) (hz : xs.length < 100000) (k : ∀ p H1, Ex H H1 → RuleAt H1 p r → tz D σ (upd H1 l (.lst (xs ++ [.ref p])))) :
    tSeq (tDrop (tBM K "list" rAppend ta (tCons te tNil))) tz D σ H := s_appR (D := { D with nx := tz D }) hl ha h hz k
end
/-- while rules are drawn: what is put into F -/
structure Gr (a b F L : Addr) (ls : List Str) (B H : Hp) (xs : List V) (rs : List RuleD) : Prop where
  kp : Kp a b B H
  D : Deal H a b
  nf : B F = none
  hF : H F = some (.lst xs)
  hL : H L = some (.lst (ls.map V.str))
  nL : L ≠ a ∧ L ≠ b ∧ L ≠ F
  dr : DrawnAt H xs rs
theorem Gr.nFa {a b F L : Addr} {ls : List Str} {B H : Hp} {xs : List V} {rs : List RuleD} (g : Gr a b F L ls B H xs rs) (D0 : Deal B a b) : F ≠ a ∧ F ≠ b := ⟨D0.nea g.nf, D0.neb g.nf⟩
theorem Gr.ex {a b F L : Addr} {ls : List Str} {B H H' : Hp} {xs : List V} {rs : List RuleD} (g : Gr a b F L ls B H xs rs) (e : Ex H H') : Gr a b F L ls B H' xs rs := ⟨g.kp.trans (Kp.same (ex_same e)), g.D.keep (ex_same e), g.nf, e _ _ g.hF, e _ _ g.hL, g.nL, g.dr.ex e⟩
theorem Gr.mv {a b F L : Addr} {ls : List Str} {B H H' : Hp} {xs : List V} {rs : List RuleD} (g : Gr a b F L ls B H xs rs) (D0 : Deal B a b) (k : Kp a b H H') (D : Deal H' a b) : Gr a b F L ls B H' xs rs := ⟨g.kp.trans k, D, g.nf, k _ _ (D0.nea g.nf) (D0.neb g.nf) g.hF, k _ _ g.nL.1 g.nL.2.1 g.hL, g.nL, g.dr.kp k g.D⟩
theorem Gr.app {a b F L : Addr} {ls : List Str} {B H : Hp} {xs : List V} {rs : List RuleD} {r : RuleD} {p : Addr} (g : Gr a b F L ls B H xs rs) (D0 : Deal B a b) (h : RuleAt H p r) (ok : r.Ok) : Gr a b F L ls B (upd H F (.lst (xs ++ [.ref p]))) (xs ++ [.ref p]) (rs ++ [r]) :=
  ⟨g.kp.put g.nf, g.D.put (D0.nea g.nf) (D0.neb g.nf), g.nf, upd_same, by rw [upd_ne g.nL.2.2]; exact g.hL, g.nL, paired_snoc (g.dr.updL g.hF) ⟨p, rfl, h.updL g.hF, ok⟩⟩
def partOf (k : Str) : Str := if k ∈ (["day", "off"] : List Str) then "own" else "whole"
theorem paired_set {α β : Type} {R : α → β → Prop} {x : α} {y : β} (h : R x y) : ∀ {xs : List α} {ys : List β} (i : Nat), Paired R xs ys → Paired R (xs.set i x) (ys.set i y)
  | _, _, _, .nil => .nil
  | _, _, 0, .cons _ t => .cons h t
  | _, _, i + 1, .cons a t => .cons a (paired_set h i t)
theorem paired_take {α β : Type} {R : α → β → Prop} : ∀ {xs : List α} {ys : List β} (i : Nat), Paired R xs ys → Paired R (xs.take i) (ys.take i)
  | _, _, 0, _ => .nil
  | _, _, _ + 1, .nil => .nil
  | _, _, i + 1, .cons h t => .cons h (paired_take i t)
theorem paired_drop {α β : Type} {R : α → β → Prop} : ∀ {xs : List α} {ys : List β} (i : Nat), Paired R xs ys → Paired R (xs.drop i) (ys.drop i)
  | _, _, 0, h => h
  | _, _, _ + 1, .nil => .nil
  | _, _, i + 1, .cons _ t => paired_drop i t
theorem paired_app {α β : Type} {R : α → β → Prop} : ∀ {xs xs2 : List α} {ys ys2 : List β}, Paired R xs ys → Paired R xs2 ys2 → Paired R (xs ++ xs2) (ys ++ ys2)
  | _, _, _, _, .nil, h => h
  | _, _, _, _, .cons h t, h2 => .cons h (paired_app t h2)
theorem cut_one (xs : List V) : cutV xs (some 1) none = xs.drop 1 := by
  cases xs with
  | nil => rfl
  | cons x r => exact cut_rest (x :: r) 1 (Nat.succ_le_succ (Nat.zero_le _))
section
variable {a b F L M : Addr} {ls : List Str} {B H : Hp} {xs ys : List V} {rs us : List RuleD} {r : RuleD} {p : Addr}
theorem Gr.newF (g : Gr a b F L ls B H xs rs) (nM : H M = none) (d : DrawnAt H ys us) : Gr a b M L ls B (upd H M (.lst ys)) ys us := by
  have g2 := g.ex (Ex.new (o := .lst ys) nM)
  exact ⟨g2.kp, g2.D, g.kp.none g.D nM, upd_same, g2.hL, ⟨g.nL.1, g.nL.2.1, fun z => by
    have := g.hL
    rw [z, nM] at this
    cases this⟩, d.ex (Ex.new nM)⟩
theorem Gr.set (g : Gr a b F L ls B H xs rs) (D0 : Deal B a b) (j : Nat) (h : RuleAt H p r) (ok : r.Ok) : Gr a b F L ls B (upd H F (.lst (xs.set j (.ref p)))) (xs.set j (.ref p)) (rs.set j r) :=
  ⟨g.kp.put g.nf, g.D.put (D0.nea g.nf) (D0.neb g.nf), g.nf, upd_same, by rw [upd_ne g.nL.2.2]; exact g.hL, g.nL, paired_set ⟨p, rfl, h.updL g.hF, ok⟩ j (g.dr.updL g.hF)⟩
end
section
variable {K : PySem.W.Frag} {σ : L2.St} {H : Hp} {ta tb te tk : TE} {D : Ends} {tz : TS} {r : RuleD}
/-- xs[i] = a new rule -/
theorem s_setR {l : Addr} {xs : List V} {j : Nat} (hl : H l = some (.lst xs)) (h : EvP te σ H (fun p H2 => RuleAt H2 p r)) (ho : Ev ta σ H (.ref l)) (hi : Ev tb σ H (.int (j : Int))) (hj : j < xs.length) (k : ∀ p H1, Ex H H1 → RuleAt H1 p r → D.nx σ (upd H1 l (.lst (xs.set j (.ref p))))) :
    tAsg te (gSub ta tb rSetL) D σ H := h H (Ex.refl H) _ fun p H1 e1 ra => ho H1 e1 _ fun H2 e2 => hi H2 (e1.trans e2) _ fun H3 e3 =>
  ⟨l, xs, (j : Int), j, rfl, rfl, ((e1.trans e2).trans e3) l _ hl, Evl.ixN_nat hj, k p H3 ((e1.trans e2).trans e3) (ra.same (ex_same (e2.trans e3)))⟩
theorem at_cons3 {t : TA} {Q : List V → Hp → Prop} (h : te σ H fun x H1 => t σ H1 fun ys H2 => Q (x :: ys) H2) : tCons te t σ H Q := h
theorem at_tup3 {t : TA} {Q : VK} (h : t σ H fun vs H1 => vs.length ≤ sizeLine ∧ ∀ p, H1 p = none → Q (.ref p) (upd H1 p (.tup vs))) : tTup t σ H Q := h
theorem at_op3 {rr : R2} {Q : VK} (h : ta σ H fun x H1 => tb σ H1 fun y H2 => rr x y H2 Q) : tOp rr ta tb σ H Q := h
theorem at_asg3 {g : V → L2.St → Hp → (L2.St → Hp → Prop) → Prop} (h : te σ H fun x H1 => g x σ H1 D.nx) : tAsg te g D σ H := h
end

/-! ### any rule, with as many tests -/
def spAnyRuleM : Sp := fun vs H Q _ => ∃ (a b : Addr) (m : Nat), vs = [.ref a, .int (m : Int)] ∧ m ≤ 3 ∧ Deal H a b ∧ ∀ p (r : RuleD) H', r.Ok → Kp a b H H' → Deal H' a b → RuleAt H' p r → Q (.ref p) H'
section
variable {P : Program} {w : World} {K : PySem.W.Frag} {mg : Str → Option Value} {base : Heap}
theorem scAnyRule : FnScope ["_law_deal_here", "_law_most", "_law_kind", "_law_found", "_law_done", "_law_turn"] ["_law_deal_here", "_law_most"] (defScope sAnyRule) := ⟨rfl, rfl, rfl, by decide +kernel, rfl, by decide +kernel, by decide +kernel⟩
theorem ok_any_ruleM {f fDraw fPick fTests fDeeds : Addr} {fd fdDraw fdPick fdTests fdDeeds : FuncData} (F : Fun K "_law_any_rule" "_law_any_rule" sAnyRule f fd) (T : TxB mg)
    (D_draw : Df K mg "_law_draw" sDraw ["_law_deal_here", "_law_many"] fDraw fdDraw) (D_pick : Df K mg "_law_pick" sPick ["_law_deal_here", "_law_some"] fPick fdPick)
    (D_tests_of : Df K mg "_law_tests_of" sTestsOf ["_law_kind"] fTests fdTests) (D_deeds_of : Df K mg "_law_deeds_of" sLawDeedsOf ["_law_kind"] fDeeds fdDeeds) : FnOk P w K mg base CX0 3 f fd ["_law_deal_here", "_law_most"] spAnyRuleM := by
  have G_draw : FnOk P w K mg base CX0 1 fDraw fdDraw ["_law_deal_here", "_law_many"] spDraw := ok_draw D_draw.F T.n_int
  have G_pick : FnOk P w K mg base CX0 2 fPick fdPick ["_law_deal_here", "_law_some"] (spPick K) := ok_pick D_pick.F T D_draw
  have G_tests_of : FnOk P w K mg base CX0 1 fTests fdTests ["_law_kind"] spTestsOf := ok_tests_of D_tests_of.F
  have G_deeds_of : FnOk P w K mg base CX0 1 fDeeds fdDeeds ["_law_kind"] spDeedsOf := ok_deeds_of D_deeds_of.F
  refine F.ok scAnyRule (fun vs H Q E h => ?_) (fun cdv A outer s H vs Q E hr h => ?_)
  · obtain ⟨a, b, m, rfl, _⟩ := h
    rfl
  · obtain ⟨a, b, m0, rfl, hm0, D, q⟩ := h
    refine ⟨_, pss_cons (ps_set (i := 2) scAnyRule.nd rfl (.inl rfl) (pe_call G_pick (hr.mono (by decide)) rfl D_pick.g D_pick.F.kp D_pick.b .nil pass0 (pa_cons (pv 0) (pa_cons (pe_lst (pa_cons pe_str (pa_cons pe_str (pa_cons pe_str (pa_cons pe_str (pa_cons pe_str pa_nil)))))) pa_nil))))
      (pss_cons (ps_par (i := 3) (j := 4) (by rfl) scAnyRule.nd rfl rfl (by decide) rfl rfl (pa_cons (pe_lst pa_nil) (pa_cons (pe_lst pa_nil) pa_nil)) (by rfl))
      (pss_cut (ps_for PassesOwn.never rfl (pi_range1 rfl T.n_range (pa_cons (pe_call G_draw (hr.mono (by decide)) rfl D_draw.g D_draw.F.kp D_draw.b .nil pass0 (pa_cons (pv 0) (pa_cons (pe_op op_add (pv 1) pe_int) pa_nil))) pa_nil)) (pg_name (i := 5) scAnyRule.nd rfl (Or.inl rfl)) (pss_one (ps_expr (pe_bm PySem.F.plainAttrs_list PySem.F.slot_list_append PySem.F.type_list_append mt_append (pv 3) (pa_cons (pe_op op_add_str (pe_call G_pick (hr.mono (by decide)) rfl D_pick.g D_pick.F.kp D_pick.b .nil pass0 (pa_cons (pv 0) (pa_cons (pe_lst (pa_cons pe_str (pa_cons pe_str pa_nil))) pa_nil))) (pe_call G_pick (hr.mono (by decide)) rfl D_pick.g D_pick.F.kp D_pick.b .nil pass0 (pa_cons (pv 0) (pa_cons (pe_call G_tests_of (hr.mono (by decide)) rfl D_tests_of.g D_tests_of.F.kp D_tests_of.b .nil pass0 (pa_cons (pv 2) pa_nil)) pa_nil)))) pa_nil)))))
      (pss_cut (ps_for PassesOwn.never rfl (pi_range1 rfl T.n_range (pa_cons (pe_call G_draw (hr.mono (by decide)) rfl D_draw.g D_draw.F.kp D_draw.b .nil pass0 (pa_cons (pv 0) (pa_cons pe_int pa_nil))) pa_nil)) (pg_name (i := 5) scAnyRule.nd rfl (Or.inl rfl)) (pss_one (ps_expr (pe_bm PySem.F.plainAttrs_list PySem.F.slot_list_append PySem.F.type_list_append mt_append (pv 4) (pa_cons (pe_call G_pick (hr.mono (by decide)) rfl D_pick.g D_pick.F.kp D_pick.b .nil pass0 (pa_cons (pv 0) (pa_cons (pe_call G_deeds_of (hr.mono (by decide)) rfl D_deeds_of.g D_deeds_of.F.kp D_deeds_of.b .nil pass0 (pa_cons (pv 2) pa_nil)) pa_nil))) pa_nil)))))
      (pss_one (ps_ret (pe_tup (pa_cons (pv 2) (pa_cons (pe_callTy call_tuple_of (by rfl) T.n_tuple (by decide +kernel) (pa_cons (pv 3) pa_nil)) (pa_cons (pe_callTy call_tuple_of (by rfl) T.n_tuple (by decide +kernel) (pa_cons (pv 4) pa_nil)) pa_nil))))))))), ?_⟩
    refine ⟨_, rfl, by show 5 ≤ sizeLine; decide, fun l nl => ⟨a, b, l, _, rfl, D.new nl, D.nea nl, D.neb nl, .inl (SqL.of upd_same), by decide, by decide, fun x H1 hx kp1 D1 => ?_⟩⟩
    obtain ⟨kd, rfl, hk⟩ : ∃ kd : Str, x = .str kd ∧ kd ∈ kindsAll := by
      have h2 : x ∈ kindsAll.map V.str := hx
      obtain ⟨kd, h3, h4⟩ := List.mem_map.mp h2
      exact ⟨kd, h4.symm, h3⟩
    have k1 : Kp a b H H1 := (Kp.new nl).trans kp1
    -- found, done = [], []
    refine ⟨Nat.zero_le _, fun F1 nF => ⟨Nat.zero_le _, fun G1 nG => ⟨_, _, rfl, ?_⟩⟩⟩
    have nG1 : H1 G1 = none := (same_upd nF).free nG
    have nGF : G1 ≠ F1 := fun z => by
      rw [z, upd_same] at nG
      cases nG
    have k2 : Kp a b H (upd (upd H1 F1 (.lst [])) G1 (.lst [])) := (k1.trans (Kp.new nF)).trans (Kp.new nG)
    have D2 : Deal (upd (upd H1 F1 (.lst [])) G1 (.lst [])) a b := (D1.new nF).new nG
    have zF : H F1 = none := k1.none D1 nF
    have zG : H G1 = none := k1.none D1 nG1
    have Fa := D1.nea nF
    have Fb := D1.neb nF
    have Ga := D1.nea nG1
    have Gb := D1.neb nG1
    -- the tests
    refine ⟨fun σ H' => ∃ (v : Option V) (ts : List Str), σ = [some (.ref a), some (.int (m0 : Int)), some (.str kd), some (.ref F1), some (.ref G1), v] ∧ Kp a b H H' ∧ Deal H' a b ∧ H' F1 = some (.lst (ts.map V.str)) ∧ H' G1 = some (.lst []) ∧ (∀ t ∈ ts, t ∈ testsNot kd) ∧ ts.length ≤ 4, ?_, ?_⟩
    · refine ⟨_, rfl, _, rfl, _, _, rfl, rfl, a, b, (m0 : Int) + 1, rfl, D2, by omega, by omega, fun r H2 r0 r1 kp2 D3 => ⟨r, rfl, by omega, by omega, ?_⟩⟩
      refine for_range (lo := 0) (n := r.toNat) (fun i σ H' => ∃ (v : Option V) (ts : List Str), σ = [some (.ref a), some (.int (m0 : Int)), some (.str kd), some (.ref F1), some (.ref G1), v] ∧ Kp a b H H' ∧ Deal H' a b ∧ H' F1 = some (.lst (ts.map V.str)) ∧ H' G1 = some (.lst []) ∧ (∀ t ∈ ts, t ∈ testsNot kd) ∧ ts.length = i)
        ⟨_, [], rfl, k2.trans kp2, D3, kp2 _ _ Fa Fb (by rw [upd_ne nGF.symm]; exact upd_same), kp2 _ _ Ga Gb upd_same, fun t ht => absurd ht List.not_mem_nil, rfl⟩ ?_ ?_
      · rintro i σ H3 hi ⟨v, ts, rfl, k3, D3, hF, hG, hts, hlen⟩
        refine ⟨_, rfl, .inl ⟨rfl, _, SqL.of hF⟩, _, rfl, by show 2 ≤ sizeLine; decide, fun l1 n1 => ⟨a, b, l1, _, rfl, D3.new n1, D3.nea n1, D3.neb n1, .inl (SqL.of upd_same), by decide, by decide, fun x H4 hx kp4 D4 => ?_⟩⟩
        obtain ⟨x', rfl, hx'⟩ : ∃ z : Str, x = .str z ∧ z ∈ (["", "not "] : List Str) := by
          have h2 : x ∈ (["", "not "] : List Str).map V.str := hx
          obtain ⟨z, h3, h4⟩ := List.mem_map.mp h2
          exact ⟨z, h4.symm, h3⟩
        refine ⟨_, rfl, _, rfl, kd, rfl, fun l2 H5 s5 n5 h5 => ?_⟩
        have t0 : 0 < (testsOf kd).length ∧ (testsOf kd).length < 1000000 := by
          unfold testsOf
          split
          · decide
          · decide
        refine ⟨a, b, l2, _, rfl, D4.keep s5, D4.nea n5, D4.neb n5, .inl (SqL.of h5), by rw [List.length_map]; exact t0.1, by rw [List.length_map]; exact t0.2, fun y H6 hy kp6 D6 => ?_⟩
        obtain ⟨y', hy', rfl⟩ := List.mem_map.mp hy
        have m : x' ++ y' ∈ testsNot kd := by
          unfold testsNot
          rcases List.mem_cons.mp hx' with e | hx'
          · rw [e]
            refine List.mem_append_left _ ?_
            have e2 : (("" : Str) ++ y') = y' := str_nil_app y'
            rw [e2]
            exact hy'
          · rw [List.mem_singleton.mp hx']
            exact List.mem_append_right _ (List.mem_map_of_mem hy')
        have kk : Kp a b H3 H6 := (((Kp.new n1).trans kp4).trans (Kp.same s5)).trans kp6
        have lx : x'.length ≤ 4 := by
          have h0 : ∀ z ∈ (["", "not "] : List Str), z.length ≤ 4 := by decide +kernel
          exact h0 _ hx'
        have ly := testsOf_len hy'
        refine ⟨_, _, rfl, rfl, size_of (by omega), F1, _, _, rfl, rfl, kk _ _ Fa Fb hF, ?_, ?_⟩
        · rw [List.length_map]
          exact small1000 (by omega)
        · refine ⟨_, ts ++ [x' ++ y'], rfl, (k3.trans kk).put zF, D6.put Fa Fb, ?_, ?_, ?_, ?_⟩
          · rw [upd_same, List.map_append]
            rfl
          · rw [upd_ne nGF]
            exact kk _ _ Ga Gb hG
          · intro t ht
            rcases List.mem_append.mp ht with ht | ht
            · exact hts t ht
            · rw [List.mem_singleton.mp ht]
              exact m
          · rw [List.length_append, hlen]
            rfl
      · rintro σ H3 ⟨v, ts, rfl, k3, D3, hF, hG, hts, hlen⟩
        exact ⟨v, ts, rfl, k3, D3, hF, hG, hts, by omega⟩
    · rintro σ H2 ⟨v, ts, rfl, k2, D2, hF, hG, hts, hlen⟩
      -- the deeds
      refine ⟨fun σ H' => ∃ (v : Option V) (ds : List Str), σ = [some (.ref a), some (.int (m0 : Int)), some (.str kd), some (.ref F1), some (.ref G1), v] ∧ Kp a b H H' ∧ Deal H' a b ∧ H' F1 = some (.lst (ts.map V.str)) ∧ H' G1 = some (.lst (ds.map V.str)) ∧ (∀ t ∈ ds, t ∈ deedsOf kd) ∧ ds.length ≤ 4, ?_, ?_⟩
      · refine ⟨_, rfl, a, b, 4, rfl, D2, by decide, by decide, fun r H3 r0 r1 kp2 D3 => ⟨r, rfl, by omega, by omega, ?_⟩⟩
        refine for_range (lo := 0) (n := r.toNat) (fun i σ H' => ∃ (v : Option V) (ds : List Str), σ = [some (.ref a), some (.int (m0 : Int)), some (.str kd), some (.ref F1), some (.ref G1), v] ∧ Kp a b H H' ∧ Deal H' a b ∧ H' F1 = some (.lst (ts.map V.str)) ∧ H' G1 = some (.lst (ds.map V.str)) ∧ (∀ t ∈ ds, t ∈ deedsOf kd) ∧ ds.length = i)
          ⟨_, [], rfl, k2.trans kp2, D3, kp2 _ _ Fa Fb hF, kp2 _ _ Ga Gb hG, fun t ht => absurd ht List.not_mem_nil, rfl⟩ ?_ ?_
        · rintro i σ H3 hi ⟨v, ds, rfl, k3, D3, hF, hG, hds, hl⟩
          refine ⟨_, rfl, .inl ⟨rfl, _, SqL.of hG⟩, _, rfl, _, rfl, kd, rfl, fun l2 H5 s5 n5 h5 => ?_⟩
          have t0 : 0 < (deedsOf kd).length ∧ (deedsOf kd).length < 1000000 := by
            unfold deedsOf
            split
            · decide
            · decide
          refine ⟨a, b, l2, _, rfl, D3.keep s5, D3.nea n5, D3.neb n5, .inl (SqL.of h5), by rw [List.length_map]; exact t0.1, by rw [List.length_map]; exact t0.2, fun y H6 hy kp6 D6 => ?_⟩
          obtain ⟨y', hy', rfl⟩ := List.mem_map.mp hy
          have kk : Kp a b H3 H6 := (Kp.same s5).trans kp6
          refine ⟨G1, _, _, rfl, rfl, kk _ _ Ga Gb hG, ?_, ?_⟩
          · rw [List.length_map]
            exact small1000 (by omega)
          · refine ⟨_, ds ++ [y'], rfl, (k3.trans kk).put zG, D6.put Ga Gb, ?_, ?_, ?_, ?_⟩
            · rw [upd_ne nGF.symm]
              exact kk _ _ Fa Fb hF
            · rw [upd_same, List.map_append]
              rfl
            · intro t ht
              rcases List.mem_append.mp ht with ht | ht
              · exact hds t ht
              · rw [List.mem_singleton.mp ht]
                exact hy'
            · rw [List.length_append, hl]
              rfl
        · rintro σ H3 ⟨v, ds, rfl, k3, D3, hF, hG, hds, hl⟩
          exact ⟨v, ds, rfl, k3, D3, hF, hG, hds, by omega⟩
      · rintro σ H3 ⟨v, ds, rfl, k3, D3, hF, hG, hds, hl⟩
        -- (kind, tuple(found), tuple(done))
        refine ⟨_, rfl, _, rfl, F1, _, rfl, .inl ⟨SqL.of hF, fun t nt => ⟨_, rfl, G1, _, rfl, .inl ⟨SqL.of (by rw [upd_ne (ne_of_none hG nt)]; exact hG), fun d nd => ⟨by show 3 ≤ sizeLine; decide, fun p np => ?_⟩⟩⟩⟩⟩
        have s1 := same_upd (o := HO.tup (ts.map V.str)) nt
        have s2 := same_upd (o := HO.tup (ds.map V.str)) nd
        have s3 := same_upd (o := HO.tup [V.str kd, .ref t, .ref d]) np
        refine q p ⟨kd, ts, ds⟩ _ ⟨hk, hts, hds, hlen, hl⟩ (((k3.trans (Kp.same s1)).trans (Kp.same s2)).trans (Kp.same s3)) (((D3.keep s1).keep s2).keep s3) ⟨t, d, upd_same, s3 _ _ (s2 _ _ upd_same), s3 _ _ upd_same⟩
end
end Ov


namespace Ov
open PySem PySem.Spec PyProof.Rows L2
open Evl (pss_cut tCut Ex Ev EvT EvL EvA EvU)
/-! ### usual rules, drawn plans of stage 1's rows -/
theorem GD.lst {ds : List PyData} {n : Nat} (h : ∀ d ∈ ds, GD d n) : GD (.list ds) (n + 1) := by
  obtain ⟨h1, h2, h3⟩ := GD.all h
  exact ⟨h1, Nat.succ_le_succ h2, h3⟩
theorem GD.lstr {l : List Str} (h : Plain l) : GD (.list (l.map PyData.str)) 1 := GD.lst (n := 0) fun d hd => by
  obtain ⟨x, hx, rfl⟩ := List.mem_map.mp hd
  exact GD.str (h x hx) 0
/-- a list of texts and [] -/
theorem et_neNil {K : PySem.W.Frag} {σ : L2.St} {H : Hp} {i : Nat} {L : Addr} {l : List Str} (pl : Plain l) (hv : σ[i]? = some (some (.ref L))) (hH : H L = some (.lst (l.map V.str))) : EvT (tTest (tOp (rNeD K) (tVar i) (tLst tNil))) σ H (!l.isEmpty) :=
  Evl.et_test (Evl.ev_opL (Evl.ev_var hv) (Evl.el_lst (vs := []) Evl.ea_nil (Nat.zero_le _)) fun q H1 hq e1 H2 e2 Q k => ⟨.list (l.map PyData.str), .list [], .lst (Evl.sq_of (e2 _ _ (e1 _ _ hH))) (dp_strs l), .lst (Evl.sq_of (e2 _ _ hq)) .nil, (GD.lstr pl).shaped (by decide), (GD.lst (ds := []) (n := 0) fun d hd => (by cases hd)).shaped (by decide), by
    cases l with
    | nil => exact k H2 (Ex.refl _)
    | cons x r => exact k H2 (Ex.refl _)⟩)
theorem cut_from (xs : List V) (n : Nat) : cutV xs (some (n : Int)) none = xs.drop n := by
  by_cases h : n ≤ xs.length
  · exact cut_rest xs n h
  · unfold cutV
    rw [HT.sIx_none, HT.sIx_nat, Nat.min_eq_right (by omega), Nat.sub_self, List.take_zero, List.drop_eq_nil_of_le (by omega)]
theorem paired_erase {α β : Type} {R : α → β → Prop} : ∀ {xs : List α} {ys : List β} (i : Nat), Paired R xs ys → Paired R (xs.eraseIdx i) (ys.eraseIdx i)
  | _, _, _, .nil => .nil
  | _, _, 0, .cons _ t => t
  | _, _, i + 1, .cons h t => .cons h (paired_erase i t)
theorem erase_map {α β : Type} (f : α → β) : ∀ (l : List α) (i : Nat), (l.map f).eraseIdx i = (l.eraseIdx i).map f
  | [], _ => rfl
  | _ :: _, 0 => rfl
  | x :: r, i + 1 => congrArg (f x :: ·) (erase_map f r i)
/-- while rules are drawn: what is put into F, nothing besides -/
structure G0 (a b F : Addr) (B H : Hp) (xs : List V) (rs : List RuleD) : Prop where
  kp : Kp a b B H
  D : Deal H a b
  nf : B F = none
  hF : H F = some (.lst xs)
  dr : DrawnAt H xs rs
section
variable {a b F M : Addr} {B H H' : Hp} {xs ys : List V} {rs us : List RuleD} {r : RuleD} {p : Addr}
theorem G0.ex (g : G0 a b F B H xs rs) (e : Ex H H') : G0 a b F B H' xs rs := ⟨g.kp.trans (Kp.same (ex_same e)), g.D.keep (ex_same e), g.nf, e _ _ g.hF, g.dr.ex e⟩
theorem G0.mv (g : G0 a b F B H xs rs) (D0 : Deal B a b) (k : Kp a b H H') (D : Deal H' a b) : G0 a b F B H' xs rs := ⟨g.kp.trans k, D, g.nf, k _ _ (D0.nea g.nf) (D0.neb g.nf) g.hF, g.dr.kp k g.D⟩
theorem G0.newF (g : G0 a b F B H xs rs) (nM : H M = none) (d : DrawnAt H ys us) : G0 a b M B (upd H M (.lst ys)) ys us := by
  have g2 := g.ex (Ex.new (o := .lst ys) nM)
  exact ⟨g2.kp, g2.D, g.kp.none g.D nM, upd_same, d.ex (Ex.new nM)⟩
theorem G0.erase (g : G0 a b F B H xs rs) (D0 : Deal B a b) (i : Nat) : G0 a b F B (upd H F (.lst (xs.eraseIdx i))) (xs.eraseIdx i) (rs.eraseIdx i) :=
  ⟨g.kp.put g.nf, g.D.put (D0.nea g.nf) (D0.neb g.nf), g.nf, upd_same, paired_erase i (g.dr.updL g.hF)⟩
end
def spMixed (K : PySem.W.Frag) : Sp := fun vs H Q _ => ∃ (a b l : Addr) (ls : List Str), vs = [.ref a, .ref l] ∧ Deal H a b ∧ H l = some (.lst (ls.map V.str)) ∧ Plain ls ∧ ls.length ≤ 100 ∧ ∀ (L : Addr) (ys : List Str) (H' : Hp), (∀ y ∈ ys, y ∈ ls) → ys.length = ls.length → Kp a b H H' → Deal H' a b → H L = none → H' L = some (.lst (ys.map V.str)) → Q (.ref L) H'
def spUsual : Sp := fun vs H Q _ => ∃ (a b : Addr), vs = [.ref a] ∧ Deal H a b ∧ ∀ L xs rs H', Kp a b H H' → Deal H' a b → H L = none → H' L = some (.lst xs) → DrawnAt H' xs rs → rs.length ≤ 9 → Q (.ref L) H'
def spRaised : Sp := fun vs H Q _ => ∃ (a b : Addr), vs = [.ref a] ∧ Deal H a b ∧ ∀ t ks H', List.Sublist ks lettersL → Kp a b H H' → Deal H' a b → H' t = some (.tup (ks.map V.str)) → Q (.ref t) H'
def spPlanL : Sp := fun vs H Q _ => ∃ (a b : Addr) (m : Nat), vs = [.ref a, .int (m : Int)] ∧ m ≤ 10 ∧ Deal H a b ∧ ∀ p ks rs H', ks.Sublist lettersL → rs.length ≤ m → Kp a b H H' → Deal H' a b → PlanFar (fun L => H L = none) H' p ks rs → Q (.ref p) H'
def partK (k : Str) : Str := if k ∈ (["ask", "stop"] : List Str) then "whole" else "own"
theorem usual_facts : ∀ k ∈ lettersL, ∀ wd ∈ (["above", "later", "not level"] : List Str), k ∈ kindsAll ∧ (∀ t ∈ [(wd ++ " ") ++ partK k, ("not " : Str) ++ partK k, wd ++ " whole", "not later own"], t ∈ testsNot k ∧ t.length ≤ 30) ∧ (∀ ds ∈ ([["take", "wipe"], ["take"]] : List (List Str)), (∀ d ∈ ds, d ∈ deedsOf k) ∧ ds.length ≤ 4) ∧ wd.length ≤ 10 ∧ (partK k).length ≤ 10 := by decide +kernel
section
variable {P : Program} {w : World} {K : PySem.W.Frag} {mg : Str → Option Value} {base : Heap}
theorem scMixed : FnScope ["_law_deal_here", "_law_some", "_law_left", "_law_found"] ["_law_deal_here", "_law_some"] (defScope sMixed) := ⟨rfl, rfl, rfl, by decide +kernel, rfl, by decide +kernel, by decide +kernel⟩
theorem scUsualRules : FnScope ["_law_deal_here", "_law_found", "_law_word", "_law_kind", "_law_part", "_law_done", "_law_form", "_law_some"] ["_law_deal_here"] (defScope sUsualRules) := ⟨rfl, rfl, rfl, by decide +kernel, rfl, by decide +kernel, by decide +kernel⟩
theorem scRaised : FnScope ["_law_deal_here", "_law_form", "_law_one"] ["_law_deal_here"] (defScope sRaised) := ⟨rfl, rfl, rfl, by decide +kernel, rfl, by decide +kernel, by decide +kernel⟩
theorem ok_mixed {f fDraw : Addr} {fd fdDraw : FuncData} (F : Fun K "_law_mixed" "_law_mixed" sMixed f fd) (T : TxB mg) (D_draw : Df K mg "_law_draw" sDraw ["_law_deal_here", "_law_many"] fDraw fdDraw) : FnOk P w K mg base CX0 2 f fd ["_law_deal_here", "_law_some"] (spMixed K) := by
  have G_draw : FnOk P w K mg base CX0 1 fDraw fdDraw ["_law_deal_here", "_law_many"] spDraw := ok_draw D_draw.F T.n_int
  refine F.ok scMixed (fun vs H Q E h => ?_) (fun cdv A outer s H vs Q E hr h => ?_)
  · obtain ⟨a, b, l, ls, rfl, _⟩ := h
    rfl
  · obtain ⟨a, b, l, ls, rfl, D, hl, pls, lz, q⟩ := h
    refine ⟨_, pss_cons (ps_par (i := 2) (j := 3) (by rfl) scMixed.nd rfl rfl (by decide) rfl rfl (pa_cons (pe_callTy call_list_of (by rfl) T.n_list (by decide +kernel) (pa_cons (pv 1) pa_nil)) (pa_cons (pe_lst pa_nil) pa_nil)) (by rfl))
      (pss_cut (ps_while PassesOwn.never (pt_cmpR (op_neD hr.units) (pv 2) (pe_lst pa_nil) (nomark _)) (pss_one (ps_expr (pe_bm PySem.F.plainAttrs_list PySem.F.slot_list_append PySem.F.type_list_append mt_append (pv 3) (pa_cons (pe_bm PySem.F.plainAttrs_list PySem.F.slot_list_pop PySem.F.type_list_pop mt_popAt (pv 2) (pa_cons (pe_call (E := E0) G_draw (hr.mono (by decide)) rfl D_draw.g D_draw.F.kp D_draw.b .nil pass0 (pa_cons (pv 0) (pa_cons (pe_callB call_len_seq (by rfl) T.n_len (by decide +kernel) (pa_cons (pv 2) pa_nil)) pa_nil))) pa_nil)) pa_nil)))))
      (pss_one (ps_ret (pv 3)))), ?_⟩
    refine ⟨_, rfl, l, _, rfl, .inl (Evl.sq_of hl), fun L1 n1 => ⟨size_of (by show 0 ≤ 100000; decide), fun F0 nF => ⟨_, _, rfl, ?_⟩⟩⟩
    have e1 : Ex H (upd H L1 (.lst (ls.map V.str))) := Ex.new n1
    have e2 := e1.trans (Ex.new (o := .lst []) nF)
    have nFH : H F0 = none := Evl.fresh_back e1 nF
    have nLF : L1 ≠ F0 := ne_of_none upd_same nF
    refine nx_go ?_
    refine Evl.q_cut (M := fun σ' H' => σ' = [some (.ref a), some (.ref l), some (.ref L1), some (.ref F0)] ∧ Kp a b H H' ∧ Deal H' a b ∧ ∃ ys : List Str, H' F0 = some (.lst (ys.map V.str)) ∧ (∀ y ∈ ys, y ∈ ls) ∧ ys.length = ls.length) ?_ (fun σ' H' hh => ?_)
    · refine Evl.s_while (fun m σ' H' => ∃ zs ys : List Str, m = zs.length ∧ σ' = [some (.ref a), some (.ref l), some (.ref L1), some (.ref F0)] ∧ Kp a b H H' ∧ Deal H' a b ∧ H' L1 = some (.lst (zs.map V.str)) ∧ H' F0 = some (.lst (ys.map V.str)) ∧ (∀ y ∈ zs, y ∈ ls) ∧ (∀ y ∈ ys, y ∈ ls) ∧ ys.length + zs.length = ls.length) ls.length
        ⟨ls, [], rfl, rfl, Kp.same (ex_same e2), D.keep (ex_same e2), by rw [upd_ne nLF]; exact upd_same, upd_same, fun y h => h, fun y h => (by cases h), Nat.zero_add _⟩ ?_
      rintro m σ' H1 ⟨zs, ys, rfl, rfl, k1, D1, hZ, hY, iz, iy, hn⟩
      refine ⟨!zs.isEmpty, et_neNil (fun x hx => pls x (iz x hx)) rfl hZ, fun hb H2 e3 => ?_, fun hb H2 e3 => ?_⟩
      · have l0 : 0 < zs.length := by
          cases zs with
          | nil => cases hb
          | cons x r => exact Nat.succ_pos _
        refine ⟨fun σ' H' => ∃ zs2 ys2 : List Str, zs2.length + 1 = zs.length ∧ σ' = [some (.ref a), some (.ref l), some (.ref L1), some (.ref F0)] ∧ Kp a b H H' ∧ Deal H' a b ∧ H' L1 = some (.lst (zs2.map V.str)) ∧ H' F0 = some (.lst (ys2.map V.str)) ∧ (∀ y ∈ zs2, y ∈ ls) ∧ (∀ y ∈ ys2, y ∈ ls) ∧ ys2.length + zs2.length = ls.length, fun σ2 H2 ⟨zs2, ys2, h1, h2⟩ => ⟨zs2.length, by omega, zs2, ys2, rfl, h2⟩, ?_⟩
        have D2 := D1.keep (ex_same e3)
        have lz2 : zs.length ≤ 100 := by omega
        refine ⟨_, rfl, .inl ⟨rfl, _, Evl.sq_of (e3 _ _ hY)⟩, _, rfl, .inl ⟨rfl, _, Evl.sq_of (e3 _ _ hZ)⟩, _, rfl, _, rfl, L1, _, rfl, .inl (Evl.sq_of (e3 _ _ hZ)), a, b, ((zs.map V.str).length : Int), rfl, D2, by rw [List.length_map]; omega, by rw [List.length_map]; omega, fun r H3 r0 r1 k3 D3 => ?_⟩
        obtain ⟨i, rfl⟩ := Int.eq_ofNat_of_zero_le r0
        rw [List.length_map] at r1
        have hi : i < zs.length := by omega
        have nLH : H L1 = none := n1
        have la := D.nea n1
        have lb := D.neb n1
        have fa := D.nea nFH
        have fb := D.neb nFH
        have hZ3 := k3 _ _ la lb (e3 _ _ hZ)
        have hY3 := k3 _ _ fa fb (e3 _ _ hY)
        obtain ⟨y, hy⟩ : ∃ y, zs[i]? = some y := ⟨_, List.getElem?_eq_getElem hi⟩
        refine ⟨L1, zs.map V.str, (i : Int), i, .str y, rfl, rfl, hZ3, by omega, by omega, (ixN_seq (Evl.ixN_nat (by rw [List.length_map]; exact hi))).1, by rw [List.getElem?_map, hy]; rfl, ?_⟩
        refine ⟨F0, ys.map V.str, .str y, rfl, rfl, by rw [upd_ne nLF.symm]; exact hY3, Evl.sz_lt (by rw [List.length_map]; omega), ?_⟩
        have kk : Kp a b H H3 := (k1.trans (Kp.same (ex_same e3))).trans k3
        refine nx_go ⟨zs.eraseIdx i, ys ++ [y], by rw [List.length_eraseIdx, if_pos hi]; omega, rfl, (kk.put nLH).put nFH, (D3.put la lb).put fa fb, ?_, ?_, fun x hx => iz x (List.mem_of_mem_eraseIdx hx), fun x hx => ?_, ?_⟩
        · rw [upd_ne nLF, upd_same, erase_map]
        · rw [upd_same, List.map_append]
          rfl
        · rcases List.mem_append.mp hx with hx | hx
          · exact iy x hx
          · rw [List.mem_singleton.mp hx]
            exact iz y (List.mem_of_getElem? hy)
        · rw [List.length_append, List.length_eraseIdx, if_pos hi]
          show ys.length + 1 + (zs.length - 1) = ls.length
          omega
      · have l0 : zs = [] := by
          cases zs with
          | nil => rfl
          | cons x r => cases hb
        subst l0
        exact ⟨rfl, k1.trans (Kp.same (ex_same e3)), D1.keep (ex_same e3), ys, e3 _ _ hY, iy, hn⟩
    · obtain ⟨rfl, k1, D1, ys, hY, iy, hn⟩ := hh
      exact ⟨_, rfl, q F0 ys H' iy hn k1 D1 nFH hY⟩
theorem ok_raised {f fDraw : Addr} {fd fdDraw : FuncData} (F : Fun K "_law_raised" "_law_raised" sRaised f fd) (T : TxB mg) (D_draw : Df K mg "_law_draw" sDraw ["_law_deal_here", "_law_many"] fDraw fdDraw) : FnOk P w K mg base CX0 2 f fd ["_law_deal_here"] spRaised := by
  have G_draw : FnOk P w K mg base CX0 1 fDraw fdDraw ["_law_deal_here", "_law_many"] spDraw := ok_draw D_draw.F T.n_int
  refine F.ok scRaised (fun vs H Q E h => ?_) (fun cdv A outer s H vs Q E hr h => ?_)
  · obtain ⟨a, b, rfl, _⟩ := h
    rfl
  · obtain ⟨a, b, rfl, D, q⟩ := h
    refine ⟨_, pss_cons (ps_set (i := 1) scRaised.nd rfl (.inr rfl) (pe_call (E := E0) G_draw (hr.mono (by decide)) rfl D_draw.g D_draw.F.kp D_draw.b .nil pass0 (pa_cons (pv 0) (pa_cons pe_int pa_nil))))
      (pss_cons (ps_if (pt_cmpR op_eq (pv 1) pe_int (nomark _)) (pss_one (ps_ret (pe_tup (pa_cons pe_str (pa_cons pe_str (pa_cons pe_str (pa_cons pe_str pa_nil))))))) pss_nil)
      (pss_one (ps_ret (pe_callTy call_tuple_of (by rfl) T.n_tuple (by decide +kernel) (pa_cons (pe_lc (own := [("_law_one", 2)]) (g := gName 2) (tt := tTest (tOp (rI0 fun i j => V.bl (decide (i < j))) (tCall spDraw [] E0 (tCons (tVar 0) (tCons (tC (.int 4)) tNil))) (tVar 1))) rfl scRaised.nd (pi_tup (pe_tup (pa_cons pe_str (pa_cons pe_str (pa_cons pe_str (pa_cons pe_str pa_nil)))))) (blkOk_by (own := [("_law_one", 2)]) (N := ["_law_deal_here", "_law_form", "_law_one"]) (sc := defScope sRaised) (by decide +kernel)) (fun _ _ _ _ _ => (pg_name (i := 2) scRaised.nd rfl (Or.inl rfl))) (fun _ _ _ _ _ => (pts_one (pt_cmpR op_lt (pe_call (E := E0) G_draw (hr.mono (by decide)) rfl D_draw.g D_draw.F.kp D_draw.b .nil pass0 (pa_cons (pv 0) (pa_cons pe_int pa_nil))) (pv 1) (nomark _)))) (fun _ _ _ _ _ => (pv 2))) pa_nil))))), ?_⟩
    refine q_put ?_
    refine ⟨_, rfl, a, b, 4, rfl, D, by decide, by decide, fun fm H1 f0 f1 k1 D1 => ?_⟩
    refine Evl.q_when (b := decide (V.int fm = V.int 0)) (Evl.et_test (Evl.ev_op (Evl.ev_var rfl) Evl.ev_c (Evl.rv_eq rfl))) (fun hb H2 e2 => ?_) (fun hb H2 e2 => ?_)
    · exact Evl.s_retU (xs := lettersL.map V.str) (Evl.eu_tup (Evl.ea_cons Evl.ev_c (Evl.ea_cons Evl.ev_c (Evl.ea_cons Evl.ev_c (Evl.ea_cons Evl.ev_c Evl.ea_nil)))) (by show 4 ≤ 100000; decide)) fun p H3 np e3 hp => q p lettersL H3 (List.Sublist.refl _) (k1.trans (Kp.same (ex_same (e2.trans e3)))) (D1.keep (ex_same (e2.trans e3))) hp
    · have D2 := D1.keep (ex_same e2)
      refine ⟨size_of (by show 4 ≤ 100000; decide), fun t nt => ⟨t, rfl, ⟨lettersL.map V.str, Evl.st_of upd_same⟩, fun Dl nD => ?_⟩⟩
      have D3 := D2.new (o := .tup (lettersL.map V.str)) nt
      have da := D3.nea nD
      have db := D3.neb nD
      have k03 : Kp a b H (upd H2 t (.tup (lettersL.map V.str))) := (k1.trans (Kp.same (ex_same e2))).trans (Kp.new nt)
      have nH : H Dl = none := k03.none D3 nD
      have ht : upd H2 t (.tup (lettersL.map V.str)) t = some (.tup (lettersL.map V.str)) := upd_same
      have tn := D3.netup ht
      refine lc_tup (xs := lettersL.map V.str) (fun i H' => Kp a b (upd H2 t (.tup (lettersL.map V.str))) H' ∧ Deal H' a b ∧ ∃ ks : List Str, H' Dl = some (.lst (ks.map V.str)) ∧ ks.Sublist (lettersL.take i)) ⟨Kp.new nD, D3.new nD, [], upd_same, List.nil_sublist _⟩ (fun i H' _ z => Evl.st_of (z.1 _ _ tn.1 tn.2 ht)) (fun i x H' hx ⟨kp, D', ks, hD, hs⟩ => ?_) (fun H' ⟨kp, D', ks, hD, hs⟩ => ?_)
      · obtain ⟨y, rfl, hy⟩ := strs_at hx
        have tk : lettersL.take (i + 1) = lettersL.take i ++ [y] := by rw [List.take_add_one, hy]; rfl
        have hi : i < 4 := (List.getElem?_eq_some_iff.mp hy).1
        have lk : ks.length ≤ 4 := Nat.le_trans hs.length_le (by rw [List.length_take]; omega)
        refine ⟨rfl, _, rfl, a, b, 4, rfl, D', by decide, by decide, fun r2 H3 s0 s1 k3 D3 => ⟨_, rfl, _, _, rfl, rfl, _, rfl, ite2 (fun hb2 => ?_) (fun hb2 => ?_)⟩⟩
        · refine ⟨_, rfl, _, k3 _ _ da db hD, Nat.lt_of_le_of_lt (by rw [List.length_map]; exact lk) (by decide), (kp.trans k3).put nD, D3.put da db, ks ++ [y], ?_, ?_⟩
          · rw [upd_same, List.map_append]
            rfl
          · rw [tk]
            exact hs.append (List.Sublist.refl _)
        · refine ⟨kp.trans k3, D3, ks, k3 _ _ da db hD, ?_⟩
          rw [tk]
          exact hs.trans (List.sublist_append_left _ _)
      · rw [List.length_map, show lettersL.take lettersL.length = lettersL from List.take_length] at hs
        exact ⟨Dl, _, rfl, .inl ⟨Evl.sq_of hD, fun u nu => q u ks _ hs ((k03.trans kp).trans (Kp.new nu)) (D'.new nu) upd_same⟩⟩
theorem ok_usual {f fPi fDraw fMx : Addr} {fd fdPi fdDraw fdMx : FuncData} (F : Fun K "_law_usual_rules" "_law_usual_rules" sUsualRules f fd) (T : TxB mg) (D_draw : Df K mg "_law_draw" sDraw ["_law_deal_here", "_law_many"] fDraw fdDraw) (D_pick : Df K mg "_law_pick" sPick ["_law_deal_here", "_law_some"] fPi fdPi)
    (D_mixed : Df K mg "_law_mixed" sMixed ["_law_deal_here", "_law_some"] fMx fdMx) : FnOk P w K mg base CX0 3 f fd ["_law_deal_here"] spUsual := by
  have G_draw : FnOk P w K mg base CX0 1 fDraw fdDraw ["_law_deal_here", "_law_many"] spDraw := ok_draw D_draw.F T.n_int
  have G_pick : FnOk P w K mg base CX0 2 fPi fdPi ["_law_deal_here", "_law_some"] (spPick K) := ok_pick D_pick.F T D_draw
  have G_mixed : FnOk P w K mg base CX0 2 fMx fdMx ["_law_deal_here", "_law_some"] (spMixed K) := ok_mixed D_mixed.F T D_draw
  refine F.ok scUsualRules (fun vs H Q E h => ?_) (fun cdv A outer s H vs Q E hr h => ?_)
  · obtain ⟨a, b, rfl, _⟩ := h
    rfl
  · obtain ⟨a, b, rfl, D, q⟩ := h
    refine ⟨_, pss_cons (ps_par (i := 1) (j := 2) (by rfl) scUsualRules.nd rfl rfl (by decide) rfl rfl (pa_cons (pe_lst pa_nil) (pa_cons (pe_call (E := E0) G_pick (hr.mono (by decide)) rfl D_pick.g D_pick.F.kp D_pick.b .nil pass0 (pa_cons (pv 0) (pa_cons (pe_lst (pa_cons pe_str (pa_cons pe_str (pa_cons pe_str (pa_cons pe_str pa_nil))))) pa_nil))) pa_nil)) (by rfl))
      (pss_cut (ps_for PassesOwn.never rfl (pi_list (pe_call (E := E0) G_mixed (hr.mono (by decide)) rfl D_mixed.g D_mixed.F.kp D_mixed.b .nil pass0 (pa_cons (pv 0) (pa_cons (pe_lst (pa_cons pe_str (pa_cons pe_str (pa_cons pe_str (pa_cons pe_str pa_nil))))) pa_nil)))) (pg_name (i := 3) scUsualRules.nd rfl (Or.inl rfl)) (pss_cons (ps_set (i := 4) scUsualRules.nd rfl (.inl rfl) (pe_ifExp (pt_cmpR op_in_seq (pv 3) (pe_tup (pa_cons pe_str (pa_cons pe_str pa_nil))) (by rfl)) pe_str pe_str))
      (pss_cons (ps_set (i := 5) scUsualRules.nd rfl (.inl rfl) (pe_ifExp (PW.pt (pw_and (pt_cmpR op_eq (pv 4) pe_str (nomark _)) (pw_and1 (pt_cmpR op_gt (pe_call (E := E0) G_draw (hr.mono (by decide)) rfl D_draw.g D_draw.F.kp D_draw.b .nil pass0 (pa_cons (pv 0) (pa_cons pe_int pa_nil))) pe_int (nomark _))))) (pe_tup (pa_cons pe_str (pa_cons pe_str pa_nil))) (pe_tup (pa_cons pe_str pa_nil))))
      (pss_cons (ps_set (i := 6) scUsualRules.nd rfl (.inl rfl) (pe_call (E := E0) G_draw (hr.mono (by decide)) rfl D_draw.g D_draw.F.kp D_draw.b .nil pass0 (pa_cons (pv 0) (pa_cons pe_int pa_nil))))
      (pss_one (ps_if (pt_cmpR op_eq (pv 6) pe_int (nomark _)) (pss_one (ps_expr (pe_bm PySem.F.plainAttrs_list PySem.F.slot_list_append PySem.F.type_list_append mt_append (pv 1) (pa_cons (pe_tup (pa_cons (pv 3) (pa_cons (pe_tup pa_nil) (pa_cons (pv 5) pa_nil)))) pa_nil)))) (pss_one (ps_if (pt_cmpR op_lt (pv 6) pe_int (nomark _)) (pss_cons (ps_expr (pe_bm PySem.F.plainAttrs_list PySem.F.slot_list_append PySem.F.type_list_append mt_append (pv 1) (pa_cons (pe_tup (pa_cons (pv 3) (pa_cons (pe_tup (pa_cons (pe_op op_add_str (pe_op op_add_str (pv 2) pe_str) (pv 4)) pa_nil)) (pa_cons (pv 5) pa_nil)))) pa_nil)))
      (pss_one (ps_expr (pe_bm PySem.F.plainAttrs_list PySem.F.slot_list_append PySem.F.type_list_append mt_append (pv 1) (pa_cons (pe_tup (pa_cons (pv 3) (pa_cons (pe_tup (pa_cons (pe_op op_add_str pe_str (pv 4)) pa_nil)) (pa_cons (pv 5) pa_nil)))) pa_nil))))) (pss_one (ps_if (pt_cmpR op_eq (pv 6) pe_int (nomark _)) (pss_one (ps_expr (pe_bm PySem.F.plainAttrs_list PySem.F.slot_list_append PySem.F.type_list_append mt_append (pv 1) (pa_cons (pe_tup (pa_cons (pv 3) (pa_cons (pe_tup (pa_cons (pe_op op_add_str (pv 2) pe_str) (pa_cons pe_str pa_nil))) (pa_cons (pv 5) pa_nil)))) pa_nil)))) pss_nil))))))))))
      (pss_cons (ps_set (i := 7) scUsualRules.nd rfl (.inl rfl) (pe_lst (pa_cons (pe_tup (pa_cons pe_str pa_nil)) (pa_cons (pe_tup pa_nil) (pa_cons (pe_tup (pa_cons pe_str pa_nil)) (pa_cons (pe_tup (pa_cons pe_str pa_nil)) pa_nil))))))
      (pss_cut (ps_if (pt_cmpR op_gt (pe_call (E := E0) G_draw (hr.mono (by decide)) rfl D_draw.g D_draw.F.kp D_draw.b .nil pass0 (pa_cons (pv 0) (pa_cons pe_int pa_nil))) pe_int (nomark _)) (pss_one (ps_expr (pe_bm PySem.F.plainAttrs_list PySem.F.slot_list_append PySem.F.type_list_append mt_append (pv 1) (pa_cons (pe_tup (pa_cons pe_str (pa_cons (pe_call (E := E0) G_pick (hr.mono (by decide)) rfl D_pick.g D_pick.F.kp D_pick.b .nil pass0 (pa_cons (pv 0) (pa_cons (pv 7) pa_nil))) (pa_cons (pe_tup (pa_cons pe_str pa_nil)) pa_nil)))) pa_nil)))) pss_nil)
      (pss_one (ps_ret (pv 1)))))), ?_⟩
    -- found, the word
    refine ⟨size_of (by show 0 ≤ 100000; decide), fun F0 nF => ?_⟩
    have D0 := D.new (o := .lst []) nF
    refine ⟨_, rfl, size_of (by show 4 ≤ 100000; decide), fun L0 n0 => ⟨a, b, L0, [.str "above", .str "above", .str "later", .str "not level"], rfl, D0.new n0, D0.nea n0, D0.neb n0, .inl (Evl.sq_of upd_same), by decide, by decide, fun x H1 hx k1 D1 => ?_⟩⟩
    obtain ⟨wd, hw, rfl⟩ : ∃ wd, wd ∈ (["above", "later", "not level"] : List Str) ∧ x = .str wd := by
      simp only [List.mem_cons, List.not_mem_nil, or_false] at hx
      rcases hx with rfl | rfl | rfl | rfl
      all_goals exact ⟨_, by decide, rfl⟩
    refine ⟨_, _, rfl, ?_⟩
    have k01 : Kp a b H H1 := ((Kp.new nF).trans (Kp.new n0)).trans k1
    have fa := D.nea nF
    have fb := D.neb nF
    have hF1 : H1 F0 = some (.lst []) := k1 _ _ fa fb ((Ex.new n0) _ _ upd_same)
    refine nx_go ?_
    -- rules for the kinds
    refine Evl.q_cut (M := fun σ' H' => ∃ (b3 b4 b5 b6 : Option V) (L : Addr) (ls : List Str) (xs : List V) (rs : List RuleD), σ' = [some (.ref a), some (.ref F0), some (.str wd), b3, b4, b5, b6, none] ∧ Gr a b F0 L ls H H' xs rs ∧ rs.length ≤ 8) ?_ (fun σ' H' hh => ?_)
    · refine ⟨_, rfl, size_of (by show 4 ≤ 100000; decide), fun L1 n1 => ?_⟩
      refine ⟨a, b, L1, lettersL, rfl, D1.new n1, upd_same, letters_plain, by decide, fun L ys H2 iy ly k2 D2 nL hL => ?_⟩
      have hF2 : H2 F0 = some (.lst []) := k2 _ _ fa fb ((Ex.new n1) _ _ hF1)
      have nLa := (D1.new (o := .lst (lettersL.map V.str)) n1).nea nL
      have nLb := (D1.new (o := .lst (lettersL.map V.str)) n1).neb nL
      have nLF : L ≠ F0 := fun z => by
        rw [z, (Ex.new n1) _ _ hF1] at nL
        cases nL
      refine ⟨L, rfl, ⟨_, Evl.sq_of hL⟩, for_list (K := K) (a := L) (xs := ys.map V.str) (fun i σ' H' => ∃ (b3 b4 b5 b6 : Option V) (xs : List V) (rs : List RuleD), σ' = [some (.ref a), some (.ref F0), some (.str wd), b3, b4, b5, b6, none] ∧ Gr a b F0 L ys H H' xs rs ∧ rs.length ≤ 2 * i)
        ⟨_, _, _, _, [], [], rfl, ⟨(k01.trans (Kp.new n1)).trans k2, D2, nF, hF2, hL, ⟨nLa, nLb, nLF⟩, .nil⟩, Nat.le_refl _⟩ (fun i σ' H' _ ⟨_, _, _, _, _, _, _, g, _⟩ => Evl.sq_of g.hL) ?_ (fun σ' H' ⟨b3, b4, b5, b6, xs, rs, e, g, hl⟩ => ⟨b3, b4, b5, b6, L, ys, xs, rs, e, g, by rw [List.length_map, ly] at hl; exact Nat.le_trans hl (by decide)⟩)⟩
      rintro i x σ' H' hx ⟨b3, b4, b5, b6, xs, rs, rfl, g, hl⟩
      obtain ⟨k, rfl, hk0⟩ := strs_at hx
      have hk : k ∈ lettersL := iy k (List.mem_of_getElem? hk0)
      have hi : i < 4 := by
        have := (List.getElem?_eq_some_iff.mp hk0).1
        have e4 : lettersL.length = 4 := rfl
        omega
      have lx := paired_len g.dr
      refine Evl.q_asg (v := .str (partK k)) (Evl.ev_if (b := decide (k ∈ (["ask", "stop"] : List Str))) (Evl.et_is (Evl.et_test (Evl.ev_inU (x := .str k) (xs := (["ask", "stop"] : List Str).map V.str) (Evl.ev_var rfl) (Evl.eu_tup (Evl.ea_cons Evl.ev_c (Evl.ea_cons Evl.ev_c Evl.ea_nil)) (by show 2 ≤ 100000; decide)) rfl (flat_strs _))) (by rw [inV_strs])) (fun h => ?_) (fun h => ?_)) fun H5 e5 => ?_
      · unfold partK
        rw [if_pos (of_decide_eq_true h)]
        exact Evl.ev_c
      · unfold partK
        rw [if_neg (of_decide_eq_false h)]
        exact Evl.ev_c
      have g5 := g.ex e5
      obtain ⟨c1, c2, c3, c4, c5⟩ := usual_facts k hk wd hw
      have l1 := c2 ((wd ++ " ") ++ partK k) (by simp)
      have l2 := c2 (("not " : Str) ++ partK k) (by simp)
      have l3 := c2 (wd ++ " whole") (by simp)
      have l4 := c2 "not later own" (by simp)
      have ln : ("not " : Str).length = 4 ∧ (" " : Str).length = 1 ∧ (" whole" : Str).length = 6 := by decide +kernel
      have lxs : xs.length ≤ 100 := by omega
      have fin : ∀ (t : Addr) (ds : List Str) (H6 : Hp), ds ∈ ([["take", "wipe"], ["take"]] : List (List Str)) → H6 t = some (.tup (ds.map V.str)) → Gr a b F0 L ys H H6 xs rs → ∀ {Dn : Ends}, (∀ σ2 H2, (∃ (b3 b4 b5 b6 : Option V) (xs : List V) (rs : List RuleD), σ2 = [some (.ref a), some (.ref F0), some (.str wd), b3, b4, b5, b6, none] ∧ Gr a b F0 L ys H H2 xs rs ∧ rs.length ≤ 2 * (i + 1)) → Dn.nx σ2 H2) →
          tSeq (tAsg (tCall spDraw [] E0 (tCons (tVar 0) (tCons (tC (V.int 6)) tNil))) (gName 6))
          (tIfS (tTest (tOp rEq (tVar 6) (tC (V.int 0))))
            (tDrop (tBM K "list" rAppend (tVar 1) (tCons (tTup (tCons (tVar 3) (tCons (tTup tNil) (tCons (tVar 5) tNil)))) tNil)))
            (tIfS (tTest (tOp (rI0 fun i j => V.bl (decide (i < j))) (tVar 6) (tC (V.int 4))))
              (tSeq (tDrop (tBM K "list" rAppend (tVar 1) (tCons (tTup (tCons (tVar 3) (tCons (tTup (tCons (tOp (fun x y H Q => ∃ i j, x = V.str i ∧ y = V.str j ∧ i.length + j.length ≤ sizeLine ∧ Q (V.str (i ++ j)) H) (tOp (fun x y H Q => ∃ i j, x = V.str i ∧ y = V.str j ∧ i.length + j.length ≤ sizeLine ∧ Q (V.str (i ++ j)) H) (tVar 2) (tC (V.str " "))) (tVar 4)) tNil)) (tCons (tVar 5) tNil)))) tNil)))
                (tDrop (tBM K "list" rAppend (tVar 1) (tCons (tTup (tCons (tVar 3) (tCons (tTup (tCons (tOp (fun x y H Q => ∃ i j, x = V.str i ∧ y = V.str j ∧ i.length + j.length ≤ sizeLine ∧ Q (V.str (i ++ j)) H) (tC (V.str "not ")) (tVar 4)) tNil)) (tCons (tVar 5) tNil)))) tNil))))
              (tIfS (tTest (tOp rEq (tVar 6) (tC (V.int 4))))
                (tDrop (tBM K "list" rAppend (tVar 1) (tCons (tTup (tCons (tVar 3) (tCons (tTup (tCons (tOp (fun x y H Q => ∃ i j, x = V.str i ∧ y = V.str j ∧ i.length + j.length ≤ sizeLine ∧ Q (V.str (i ++ j)) H) (tVar 2) (tC (V.str " whole"))) (tCons (tC (V.str "not later own")) tNil))) (tCons (tVar 5) tNil)))) tNil))) tNext)))
          Dn [some (.ref a), some (.ref F0), some (.str wd), some (.str k), some (.str (partK k)), some (.ref t), b6, none] H6 := by
        intro t ds H6 hds ht g6 Dn fin
        have dsk := c3 ds hds
        have ok0 : RuleD.Ok ⟨k, [], ds⟩ := ⟨c1, fun t ht => (by cases ht), dsk.1, by show 0 ≤ 4; decide, dsk.2⟩
        have ok1 : RuleD.Ok ⟨k, [(wd ++ " ") ++ partK k], ds⟩ := ⟨c1, fun t ht => by
          rw [List.mem_singleton.mp ht]
          exact l1.1, dsk.1, by show 1 ≤ 4; decide, dsk.2⟩
        have ok2 : RuleD.Ok ⟨k, [("not " : Str) ++ partK k], ds⟩ := ⟨c1, fun t ht => by
          rw [List.mem_singleton.mp ht]
          exact l2.1, dsk.1, by show 1 ≤ 4; decide, dsk.2⟩
        have ok3 : RuleD.Ok ⟨k, [wd ++ " whole", "not later own"], ds⟩ := ⟨c1, fun t ht => by
          rcases List.mem_cons.mp ht with rfl | ht
          · exact l3.1
          · rw [List.mem_singleton.mp ht]
            exact l4.1, dsk.1, by show 2 ≤ 4; decide, dsk.2⟩
        refine q_put ?_
        refine ⟨_, rfl, a, b, 6, rfl, g6.D, by decide, by decide, fun fm H7 f0 f1 k7 D7 => ?_⟩
        have g7 := g6.mv D k7 D7
        have h7 := k7 _ _ (g6.D.netup ht).1 (g6.D.netup ht).2 ht
        have nil : ∀ {H : Hp} {σ : L2.St}, EvTu (tTup tNil) σ H [] := eu_tu (l := []) (Evl.eu_tup Evl.ea_nil (by show 0 ≤ 100000; decide))
        refine Evl.s_if (b := decide (V.int fm = V.int 0)) (Evl.et_test (Evl.ev_op (Evl.ev_var rfl) Evl.ev_c (Evl.rv_eq rfl))) (fun hb H8 e8 => ?_) (fun hb H8 e8 => ?_)
        · have g8 := g7.ex e8
          exact s_appR g8.hF (Evl.ev_var rfl) (evr_tup (ts := []) (Evl.ev_var rfl) nil (tu_var rfl (e8 _ _ h7))) (by omega) fun p H9 e9 ra => fin _ _ ⟨_, _, _, _, _, _, rfl, (g8.ex e9).app D ra ok0, by rw [List.length_append]; show rs.length + 1 ≤ 2 * (i + 1); omega⟩
        refine Evl.s_if (b := decide (fm < 4)) (Evl.et_test (Evl.ev_op (Evl.ev_var rfl) Evl.ev_c Evl.rv_I0)) (fun hb2 H9 e9 => ?_) (fun hb2 H9 e9 => ?_)
        · have g9 := (g7.ex e8).ex e9
          have h9 := e9 _ _ (e8 _ _ h7)
          refine q_appR g9.hF (Evl.ev_var rfl) (evr_tup (ts := [(wd ++ " ") ++ partK k]) (Evl.ev_var rfl) (eu_tu (Evl.eu_tup (Evl.ea_cons (ev_catS (ev_catS (Evl.ev_var rfl) Evl.ev_c (by omega)) (Evl.ev_var rfl) (by rw [Str.length_append]; omega)) Evl.ea_nil) (by show 1 ≤ 100000; decide))) (tu_var rfl h9)) (by omega) fun p Ha ea ra => ?_
          have ga := (g9.ex ea).app D ra ok1
          refine s_appR ga.hF (Evl.ev_var rfl) (evr_tup (ts := [("not " : Str) ++ partK k]) (Evl.ev_var rfl) (eu_tu (Evl.eu_tup (Evl.ea_cons (ev_catS Evl.ev_c (Evl.ev_var rfl) (by omega)) Evl.ea_nil) (by show 1 ≤ 100000; decide))) (tu_var rfl ?_)) (by rw [List.length_append]; show xs.length + 1 < 100000; omega) fun p2 Hb eb rb => fin _ _ ⟨_, _, _, _, _, _, rfl, (ga.ex eb).app D rb ok2, by rw [List.length_append, List.length_append]; show rs.length + 1 + 1 ≤ 2 * (i + 1); omega⟩
          rw [upd_ne (ne_of (ea _ _ h9) (g9.ex ea).hF (fun z => nomatch z))]
          exact ea _ _ h9
        have g9 := (g7.ex e8).ex e9
        have h9 := e9 _ _ (e8 _ _ h7)
        refine Evl.s_when (b := decide (V.int fm = V.int 4)) (Evl.et_test (Evl.ev_op (Evl.ev_var rfl) Evl.ev_c (Evl.rv_eq rfl))) (fun hb3 Ha ea => ?_) (fun hb3 Ha ea => fin _ _ ⟨_, _, _, _, xs, rs, rfl, g9.ex ea, by omega⟩)
        have ga := g9.ex ea
        exact s_appR ga.hF (Evl.ev_var rfl) (evr_tup (ts := [wd ++ " whole", "not later own"]) (Evl.ev_var rfl) (eu_tu (Evl.eu_tup (Evl.ea_cons (ev_catS (Evl.ev_var rfl) Evl.ev_c (by omega)) (Evl.ea_cons Evl.ev_c Evl.ea_nil)) (by show 2 ≤ 100000; decide))) (tu_var rfl (ea _ _ h9))) (by omega) fun p Hb eb ra => fin _ _ ⟨_, _, _, _, _, _, rfl, (ga.ex eb).app D ra ok3, by rw [List.length_append]; show rs.length + 1 ≤ 2 * (i + 1); omega⟩
      refine q_put ?_
      refine (Evl.et_is (Evl.et_test (Evl.ev_op (Evl.ev_var rfl) Evl.ev_c (Evl.rv_eq rfl))) (eq_str (partK k) "whole")) H5 (Ex.refl _) _ fun H6 e6 => ite2 (fun hb => ?_) (fun hb => ?_)
      · have g6 := g5.ex e6
        refine ⟨_, rfl, a, b, 3, rfl, g6.D, by decide, by decide, fun r H7 r0 r1 k7 D7 => ⟨_, _, rfl, rfl, _, rfl, ite2 (fun hb2 => ?_) (fun hb2 => ?_)⟩⟩
        · exact ⟨size_of (by show 2 ≤ 100000; decide), fun t nt => fin t ["take", "wipe"] _ (by decide) upd_same ((g6.mv D k7 D7).ex (Ex.new nt)) fun _ _ z => z⟩
        · exact ⟨size_of (by show 1 ≤ 100000; decide), fun t nt => fin t ["take"] _ (by decide) upd_same ((g6.mv D k7 D7).ex (Ex.new nt)) fun _ _ z => z⟩
      · exact iteF ⟨size_of (by show 1 ≤ 100000; decide), fun t nt => fin t ["take"] _ (by decide) upd_same ((g5.ex e6).ex (Ex.new nt)) fun _ _ z => z⟩
    · obtain ⟨b3, b4, b5, b6, L, ls, xs, rs, rfl, g, hl⟩ := hh
      have sz : ∀ {n : Nat}, n ≤ 5 → n ≤ sizeLine := fun h => size_of (by omega)
      refine q_put ?_
      refine ⟨sz (by show 1 ≤ 5; decide), fun p1 n1 => ⟨sz (by show 0 ≤ 5; decide), fun p2 n2 => ⟨sz (by show 1 ≤ 5; decide), fun p3 n3 => ⟨sz (by show 1 ≤ 5; decide), fun p4 n4 => ⟨sz (by show 4 ≤ 5; decide), fun Lv nLv => ?_⟩⟩⟩⟩⟩
      have e1 : Ex H' _ := Ex.new (o := .tup [.str "level"]) n1
      have e2 := e1.trans (Ex.new (o := .tup []) n2)
      have e3 := e2.trans (Ex.new (o := .tup [.str "level"]) n3)
      have e4 := e3.trans (Ex.new (o := .tup [.str "not level"]) n4)
      have e5 := e4.trans (Ex.new (o := .lst [.ref p1, .ref p2, .ref p3, .ref p4]) nLv)
      have g5 := g.ex e5
      have nLvH := (g.ex e4)
      have lva := nLvH.D.nea nLv
      have lvb := nLvH.D.neb nLv
      refine Evl.q_cut (M := fun σ' H' => σ'[1]? = some (some (.ref F0)) ∧ ∃ (xs : List V) (rs : List RuleD), Gr a b F0 L ls H H' xs rs ∧ rs.length ≤ 9) ?_ (fun σ' H' ⟨h1, xs, rs, g, hl⟩ => ⟨_, h1, q F0 xs rs H' g.kp g.D nF g.hF g.dr hl⟩)
      refine ⟨_, rfl, a, b, 4, rfl, g5.D, by decide, by decide, fun r H6 r0 r1 k6 D6 => ⟨_, _, rfl, rfl, _, rfl, ite2 (fun hb => ?_) (fun hb => ⟨rfl, xs, rs, g5.mv D k6 D6, by omega⟩)⟩⟩
      have g6 := g5.mv D k6 D6
      have st : ∀ {t : Addr} {zs : List V}, upd (upd (upd (upd (upd H' p1 (.tup [.str "level"])) p2 (.tup [])) p3 (.tup [.str "level"])) p4 (.tup [.str "not level"])) Lv (.lst [.ref p1, .ref p2, .ref p3, .ref p4]) t = some (.tup zs) → H6 t = some (.tup zs) := fun h => k6 _ _ (g5.D.netup h).1 (g5.D.netup h).2 h
      have hL6 : H6 Lv = some (.lst [.ref p1, .ref p2, .ref p3, .ref p4]) := k6 _ _ lva lvb upd_same
      have m1 := st ((Ex.new nLv) _ _ ((Ex.new n4) _ _ ((Ex.new n3) _ _ ((Ex.new n2) _ _ upd_same))))
      have m2 := st ((Ex.new nLv) _ _ ((Ex.new n4) _ _ ((Ex.new n3) _ _ upd_same)))
      have m3 := st ((Ex.new nLv) _ _ ((Ex.new n4) _ _ upd_same))
      have m4 := st ((Ex.new nLv) _ _ upd_same)
      refine ⟨_, rfl, .inl ⟨rfl, _, Evl.sq_of g6.hF⟩, _, rfl, _, rfl, a, b, Lv, [.ref p1, .ref p2, .ref p3, .ref p4], rfl, g6.D, lva, lvb, .inl (Evl.sq_of hL6), Nat.le_of_ble_eq_true rfl, Nat.le_of_ble_eq_true rfl, fun x H7 hx k7 D7 => ?_⟩
      have g7 := g6.mv D k7 D7
      have hx7 : ∃ t us, x = .ref t ∧ us ∈ ([["level"], [], ["not level"]] : List (List Str)) ∧ H7 t = some (.tup (us.map V.str)) := by
        have st2 : ∀ {t : Addr} {zs : List V}, H6 t = some (.tup zs) → H7 t = some (.tup zs) := fun h => k7 _ _ (g6.D.netup h).1 (g6.D.netup h).2 h
        simp only [List.mem_cons, List.not_mem_nil, or_false] at hx
        rcases hx with rfl | rfl | rfl | rfl
        · exact ⟨p1, ["level"], rfl, by decide, st2 m1⟩
        · exact ⟨p2, [], rfl, by decide, st2 m2⟩
        · exact ⟨p3, ["level"], rfl, by decide, st2 m3⟩
        · exact ⟨p4, ["not level"], rfl, by decide, st2 m4⟩
      obtain ⟨t1, us, rfl, hus, ht1⟩ := hx7
      refine ⟨sz (by show 1 ≤ 5; decide), fun t2 nt2 => ⟨sz (by show 3 ≤ 5; decide), fun p np => ?_⟩⟩
      have e8 : Ex H7 (upd H7 t2 (.tup [.str "count"])) := Ex.new nt2
      have e9 := e8.trans (Ex.new (o := .tup [.str "answer", .ref t1, .ref t2]) np)
      have g9 := g7.ex e9
      have okE : RuleD.Ok ⟨"answer", us, ["count"]⟩ := by
        have z1 : ∀ ls ∈ ([["level"], [], ["not level"]] : List (List Str)), (∀ t ∈ ls, t ∈ testsNot "answer") ∧ ls.length ≤ 4 := by decide +kernel
        have z2 : ∀ d ∈ (["count"] : List Str), d ∈ deedsOf "answer" := by decide +kernel
        exact ⟨(by decide : ("answer" : Str) ∈ kindsAll), (z1 us hus).1, z2, (z1 us hus).2, by show 1 ≤ 4; decide⟩
      have lx := paired_len g.dr
      refine ⟨F0, xs, .ref p, rfl, rfl, g9.hF, Evl.sz_lt (by omega), ?_⟩
      refine nx_go ⟨rfl, _, _, g9.app D ⟨t1, t2, upd_same, e9 _ _ ht1, (Ex.new np) _ _ upd_same⟩ okE, by rw [List.length_append]; show rs.length + 1 ≤ 9; omega⟩
end
end Ov


namespace Ov
open PySem PySem.Spec PyProof.Rows L2
/-! ### own rule: a list times a number -/
theorem vals_app : ∀ {xs ys : List V} {us ws : List Value}, Vals xs us → Vals ys ws → Vals (xs ++ ys) (us ++ ws)
  | _, _, _, _, .nil, h => h
  | _, _, _, _, .cons a t, h => .cons a (vals_app t h)
theorem vals_rep {xs : List V} {us : List Value} (h : Vals xs us) : ∀ k : Nat, Vals (List.replicate k xs).flatten (List.replicate k us).flatten
  | 0 => .nil
  | k + 1 => vals_app h (vals_rep h k)
theorem len_rep {α : Type} (xs : List α) : ∀ k : Nat, (List.replicate k xs).flatten.length = xs.length * k
  | 0 => by simp
  | k + 1 => by
    rw [List.replicate_succ, List.flatten_cons, List.length_append, len_rep xs k, Nat.mul_succ]
    omega
def rMulL (K : PySem.W.Frag) : R2 := fun x y H Q => ∃ (a : Addr) (xs : List V) (k : Int), x = V.ref a ∧ y = V.int k ∧ SqL K H a xs ∧ xs.length * k.toNat ≤ 256 ∧ 0 ≤ k ∧ k < 1000 ∧ ∀ p, H p = none → Q (.ref p) (upd H p (.lst (List.replicate k.toNat xs).flatten))
theorem fits_small {k : Int} (h0 : 0 ≤ k) (h1 : k < 1000) : ¬(!Builtin.List.listFitsIndex k) = true := by
  unfold Builtin.List.listFitsIndex
  rw [decide_eq_true (by omega), decide_eq_true (by omega)]
  decide
theorem mul_core {prog : Program} {w : World} {A : Around} {E : Value → Shared → Prop} {s : Shared} {a : Addr} {its : List Value} {n : Nat} {dd : Option Addr} {sl : Array (Option Value)} {k : Int} {t : Tok} {Q : Value → Shared → Prop}
    (ho : s.heap.get? a = some { cls := .type "list", dict := dd, data := .seq its.toArray n, slots := sl }) (h0 : 0 ≤ k) (h1 : k < 1000) (hm : its.length * k.toNat ≤ 256)
    (h : Q (.ref s.heap.objs.size) { s with heap := s.heap.push { cls := .type "list", data := .seq (List.replicate k.toNat its).flatten.toArray 0 } }) : wpAny (model prog w) A (binaryOp .Mult (.ref a) (.int k t)) Q E s := by
  have hsz : its.toArray.size * k.toNat ≤ 256 := by rw [List.size_toArray]; exact hm
  have hsl := sizeLine_eq
  refine wpAny_binaryOp_repeat_ref (T := "list") (U := "int") (by decide) ⟨_, ho, rfl⟩ (fun s' => typeIs_int s' k t) noFill_list_mul F.fills_int_mul F.slot_int_rmul repeat_list F.slot_int_index.lookup
    (call_meets F.slot_int_rmul (typeIs_int s k t) F.entry_int_rmul (F.args_int_rmul_2 _ _) (lm_int_rmul_list_any k t a its.toArray n dd sl)
      ⟨ho, rfl, ⟨_, ho, rfl⟩, call_meets F.slot_list_mul ⟨_, ho, rfl⟩ F.entry_list_mul (F.args_list_mul_2 _ _)
        (lm_list_mul_any a its.toArray n dd sl k t (fits_small h0 h1) (by omega) (by simp only [Builtin.List.listTooLong, decide_eq_true_eq]; omega))
        ⟨ho, ?_⟩⟩)
  rw [listMul_foldl_if]
  exact h
theorem op_mul_li {X : Cx} : OpR X (binaryOp .Mult) (rMulL X.K) := by
  intro pins s σ H x y v u Q I rx ry h
  obtain ⟨a, xs, k, rfl, rfl, hs, hm, hk0, hk1, q⟩ := h
  obtain rfl : v = Value.ref a := rx
  obtain ⟨t, rfl⟩ := ry
  obtain ⟨its, rv, ⟨⟨cls, dd, data, sl⟩, n, ho, hc, hdn, hd⟩, hlen⟩ := I.list hs
  have hc1 : cls = Value.type "list" := hc
  have hd1 : data = Data.seq its.toArray n := hd
  subst hc1 hd1
  refine mul_core ho hk0 hk1 (by rw [← rv.length]; exact hm) ?_
  refine ⟨.ref s.heap.objs.size, upd H s.heap.objs.size (.lst (List.replicate k.toNat xs).flatten), I.laid (t' := s.toks) (fun b o e => Heap.get?_push_of_some _ e) (Nat.le_refl _) ⟨?_, _, 0, vals_rep rv k.toNat, Heap.get?_push_size _ rfl⟩, rfl, q _ (I.hok.fresh (Nat.le_refl _))⟩
  rw [len_rep]
  exact Nat.le_trans hm (by rw [sizeLine_eq]; decide)
end Ov


namespace Ov
open PySem PySem.Spec PyProof.Rows L2
open Evl (pss_cut tCut Ex Ev EvT EvL EvA EvU)
section
variable {K : PySem.W.Frag} {σ : L2.St} {H : Hp}
theorem rd_rulesM {a b : Addr} {Q : VK} {m j : Nat} {wi : TI} (h0 : ∀ x, ((wipe σ [j]).set j (some x))[0]? = some (some (.ref a))) (hw : ∀ x, wipe ((wipe σ [j]).set j (some x)) [j] = wipe σ [j]) (hm : m ≤ 10)
    (hwi : ∀ R : It → Hp → Prop, (∀ (H1 : Hp) (n : Nat), Kp a b H H1 → Deal H1 a b → n ≤ m → R (Itr 0 n) H1) → wi σ H R)
    (q : ∀ (L : Addr) (H' : Hp) (xs : List V) (rs : List RuleD), Kp a b H H' → Deal H' a b → H' L = some (.lst xs) → rs.length ≤ m → DrawnAt H' xs rs → H L = none → Q (.ref L) H') :
    tLc wi (gName j) tYes (tCall spAnyRuleM [] E0 (tCons (tVar 0) (tCons (tC (V.int 3)) tNil))) [j] σ H Q := by
  refine hwi _ fun H1 n k1 hd hn L hL => ?_
  have na := hd.nea hL
  have nb := hd.neb hL
  have up : ∀ {H' : Hp} {o : HO}, Deal H' a b → Deal (upd H' L o) a b := fun {H' o} ⟨ns, m, ha, hb, hd3⟩ => ⟨ns, m, by rw [upd_ne na.symm]; exact ha, by rw [upd_ne nb.symm]; exact hb, hd3⟩
  have kp : ∀ {H' : Hp} {o : HO}, Kp a b H1 H' → Kp a b H1 (upd H' L o) := fun {H' o} k x u h1 h2 h3 => by
    rw [upd_ne (ne_of_none h3 hL)]
    exact k x u h1 h2 h3
  refine lc_range (lo := 0) (n := n) (fun i H' => Kp a b H1 H' ∧ Deal H' a b ∧ ∃ xs rs, H' L = some (.lst xs) ∧ rs.length = i ∧ DrawnAt H' xs rs) ⟨kp (Kp.refl _ _ _), up hd, [], [], upd_same, rfl, .nil⟩ ?_ ?_
  · rintro i H' hi ⟨k, d, xs, rs, h3, h4, h5⟩
    refine ⟨hw _, ?_⟩
    simp only [tYes, eq_self, if_true]
    refine ⟨_, h0 _, a, b, 3, rfl, by decide, d, fun p r H4 ok k4 d4 at4 => ?_⟩
    have h3' := k4 _ _ na nb h3
    have lx : xs.length = i := by rw [paired_len h5]; exact h4
    exact ⟨xs, h3', by rw [lx]; exact Nat.lt_of_lt_of_le hi (Nat.le_trans (Nat.le_trans hn hm) (by decide)), kp (k.trans k4), up d4, _, rs ++ [r], upd_same, by rw [List.length_append, h4]; rfl, paired_snoc ((h5.kp k4 d).updL h3') ⟨p, rfl, at4.updL h3', ok⟩⟩
  · rintro H' ⟨k, d, xs, rs, h3, h4, h5⟩
    exact q L H' xs rs (k1.trans k) d h3 (by omega) h5 (Kp.none k1 hd hL)
end
section
variable {P : Program} {w : World} {K : PySem.W.Frag} {mg : Str → Option Value} {base : Heap}
theorem scPlan : FnScope ["_law_deal_here", "_law_most", "_law_found", "_law_turn", "_law_at", "_law_more"] ["_law_deal_here", "_law_most"] (defScope sPlan) := ⟨rfl, rfl, rfl, by decide +kernel, rfl, by decide +kernel, by decide +kernel⟩
theorem ok_planL {f fPi fDraw fMx fAr fUs fRa fTo fDo : Addr} {fd fdPi fdDraw fdMx fdAr fdUs fdRa fdTo fdDo : FuncData} (F : Fun K "_law_plan" "_law_plan" sPlan f fd) (T : TxB mg) (D_draw : Df K mg "_law_draw" sDraw ["_law_deal_here", "_law_many"] fDraw fdDraw) (D_pick : Df K mg "_law_pick" sPick ["_law_deal_here", "_law_some"] fPi fdPi)
    (D_mixed : Df K mg "_law_mixed" sMixed ["_law_deal_here", "_law_some"] fMx fdMx) (D_tests_of : Df K mg "_law_tests_of" sTestsOf ["_law_kind"] fTo fdTo) (D_deeds_of : Df K mg "_law_deeds_of" sLawDeedsOf ["_law_kind"] fDo fdDo)
    (D_any_rule : Df K mg "_law_any_rule" sAnyRule ["_law_deal_here", "_law_most"] fAr fdAr) (D_usual_rules : Df K mg "_law_usual_rules" sUsualRules ["_law_deal_here"] fUs fdUs) (D_raised : Df K mg "_law_raised" sRaised ["_law_deal_here"] fRa fdRa) : FnOk P w K mg base CX0 4 f fd ["_law_deal_here", "_law_most"] spPlanL := by
  have G_draw : FnOk P w K mg base CX0 1 fDraw fdDraw ["_law_deal_here", "_law_many"] spDraw := ok_draw D_draw.F T.n_int
  have G_any_rule : FnOk P w K mg base CX0 3 fAr fdAr ["_law_deal_here", "_law_most"] spAnyRuleM := ok_any_ruleM D_any_rule.F T D_draw D_pick D_tests_of D_deeds_of
  have G_usual_rules : FnOk P w K mg base CX0 3 fUs fdUs ["_law_deal_here"] spUsual := ok_usual D_usual_rules.F T D_draw D_pick D_mixed
  have G_raised : FnOk P w K mg base CX0 2 fRa fdRa ["_law_deal_here"] spRaised := ok_raised D_raised.F T D_draw
  refine F.ok scPlan (fun vs H Q E h => ?_) (fun cdv A outer s H vs Q E hr h => ?_)
  · obtain ⟨a, b, m, rfl, _⟩ := h
    rfl
  · obtain ⟨a, b, m, rfl, hm, D, q⟩ := h
    refine ⟨_, pss_cons (ps_set (i := 2) scPlan.nd rfl (.inl rfl) (pe_call (E := E0) G_usual_rules (hr.mono (by decide)) rfl D_usual_rules.g D_usual_rules.F.kp D_usual_rules.b .nil pass0 (pa_cons (pv 0) pa_nil)))
      (pss_cut (ps_for PassesOwn.never rfl (pi_range1 rfl T.n_range (pa_cons (pe_call (E := E0) G_draw (hr.mono (by decide)) rfl D_draw.g D_draw.F.kp D_draw.b .nil pass0 (pa_cons (pv 0) (pa_cons pe_int pa_nil))) pa_nil)) (pg_name (i := 3) scPlan.nd rfl (Or.inl rfl)) (pss_cons (ps_set (i := 4) scPlan.nd rfl (.inl rfl) (pe_call (E := E0) G_draw (hr.mono (by decide)) rfl D_draw.g D_draw.F.kp D_draw.b .nil pass0 (pa_cons (pv 0) (pa_cons (pe_op op_add (pe_callB call_len_seq (by rfl) T.n_len (by decide +kernel) (pa_cons (pv 2) pa_nil)) pe_int) pa_nil))))
      (pss_cons (ps_set (i := 5) scPlan.nd rfl (.inl rfl) (pe_ifExp (pt_cmpR op_eq (pe_call (E := E0) G_draw (hr.mono (by decide)) rfl D_draw.g D_draw.F.kp D_draw.b .nil pass0 (pa_cons (pv 0) (pa_cons pe_int pa_nil))) pe_int (nomark _)) (pe_lst (pa_cons (pe_call (E := E0) G_any_rule (hr.mono (by decide)) rfl D_any_rule.g D_any_rule.F.kp D_any_rule.b .nil pass0 (pa_cons (pv 0) (pa_cons pe_int pa_nil))) pa_nil)) (pe_lst pa_nil)))
      (pss_one (ps_set (i := 2) scPlan.nd rfl (.inl rfl) (pe_op op_cat (pe_op op_cat (pe_slice sl_list (pv 2) po_none (po_some (pv 4))) (pv 5)) (pe_slice sl_list (pv 2) (po_some (pe_op op_add (pv 4) (pe_call (E := E0) G_draw (hr.mono (by decide)) rfl D_draw.g D_draw.F.kp D_draw.b .nil pass0 (pa_cons (pv 0) (pa_cons pe_int pa_nil))))) po_none)))))))
      (pss_cut (ps_if (pt_cmpR op_eq (pe_call (E := E0) G_draw (hr.mono (by decide)) rfl D_draw.g D_draw.F.kp D_draw.b .nil pass0 (pa_cons (pv 0) (pa_cons pe_int pa_nil))) pe_int (nomark _)) (pss_one (ps_setLc (i := 2) (own := [("_law_turn", 3)]) (g := gName 3) (tt := tYes) rfl scPlan.nd rfl rfl (sw_true rfl rfl rfl (by decide +kernel)) (pi_range1 rfl T.n_range (pa_cons (pe_call (E := E0) G_draw (hr.mono (by decide)) rfl D_draw.g D_draw.F.kp D_draw.b .nil pass0 (pa_cons (pv 0) (pa_cons (pe_op op_add (pv 1) pe_int) pa_nil))) pa_nil)) (blkOk_by (own := [("_law_turn", 3)]) (N := ["_law_deal_here", "_law_most", "_law_found", "_law_turn", "_law_at", "_law_more"]) (sc := defScope sPlan) (by decide +kernel)) (fun _ _ _ _ _ => (pg_name (i := 3) scPlan.nd rfl (Or.inl rfl))) (fun _ _ _ _ _ => pts_nil) (fun _ _ _ _ _ => (pe_call (E := E0) G_any_rule (hr.mono (by decide)) rfl D_any_rule.g D_any_rule.F.kp D_any_rule.b .nil pass0 (pa_cons (pv 0) (pa_cons pe_int pa_nil)))))) pss_nil)
      (pss_cut (ps_while PassesOwn.never (pt_cmpR op_gt (pe_callB call_len_seq (by rfl) T.n_len (by decide +kernel) (pa_cons (pv 2) pa_nil)) (pv 1) (nomark _)) (pss_one (ps_expr (pe_bm PySem.F.plainAttrs_list PySem.F.slot_list_pop PySem.F.type_list_pop mt_popAt (pv 2) (pa_cons (pe_call (E := E0) G_draw (hr.mono (by decide)) rfl D_draw.g D_draw.F.kp D_draw.b .nil pass0 (pa_cons (pv 0) (pa_cons (pe_callB call_len_seq (by rfl) T.n_len (by decide +kernel) (pa_cons (pv 2) pa_nil)) pa_nil))) pa_nil)))))
      (pss_one (ps_ret (pe_tup (pa_cons (pe_call (E := E0) G_raised (hr.mono (by decide)) rfl D_raised.g D_raised.F.kp D_raised.b .nil pass0 (pa_cons (pv 0) pa_nil)) (pa_cons (pv 2) pa_nil)))))))), ?_⟩
    refine q_put ?_
    refine ⟨_, rfl, a, b, rfl, D, fun F1 xs1 rs1 H1 k1 D1 nF hF hd hl => ?_⟩
    have g1 : G0 a b F1 H H1 xs1 rs1 := ⟨k1, D1, nF, hF, hd⟩
    refine Evl.q_cut (M := fun σ' H' => ∃ (c3 c4 c5 : Option V) (F2 : Addr) (xs : List V) (rs : List RuleD), σ' = [some (.ref a), some (.int (m : Int)), some (.ref F2), c3, c4, c5] ∧ G0 a b F2 H H' xs rs ∧ rs.length ≤ 100) ?_ (fun σ' H' hh => ?_)
    · refine ⟨_, rfl, a, b, 3, rfl, g1.D, by decide, by decide, fun r H2 r0 r1 k2 D2 => ⟨r, rfl, by omega, by omega, ?_⟩⟩
      refine for_range (lo := 0) (n := r.toNat) (fun i σ' H' => ∃ (c3 c4 c5 : Option V) (F2 : Addr) (xs : List V) (rs : List RuleD), σ' = [some (.ref a), some (.int (m : Int)), some (.ref F2), c3, c4, c5] ∧ G0 a b F2 H H' xs rs ∧ rs.length ≤ 9 + i)
        ⟨_, _, _, F1, xs1, rs1, rfl, g1.mv D k2 D2, hl⟩ ?_ (fun σ' H' ⟨c3, c4, c5, F2, xs, rs, e, g, h⟩ => ⟨c3, c4, c5, F2, xs, rs, e, g, by omega⟩)
      rintro i σ' H3 hi ⟨c3, c4, c5, F2, xs, rs, rfl, g, hl⟩
      have lx := paired_len g.dr
      refine q_put ?_
      refine ⟨_, rfl, _, rfl, F2, xs, rfl, .inl (Evl.sq_of g.hF), _, _, rfl, rfl, a, b, (xs.length : Int) + 1, rfl, g.D, by omega, by omega, fun at_ H4 s0 s1 k4 D4 => ?_⟩
      have g4 := g.mv D k4 D4
      obtain ⟨j, rfl⟩ := Int.eq_ofNat_of_zero_le s0
      have hj : j ≤ xs.length := by omega
      -- what comes between
      have rest : ∀ (M1 : Addr) (zs : List V) (us : List RuleD) (H5 : Hp), H5 M1 = some (.lst zs) → M1 ≠ a ∧ M1 ≠ b → DrawnAt H5 zs us → us.length ≤ 1 → G0 a b F2 H H5 xs rs → ∀ {Dn : Ends}, (∀ σ2 H2, (∃ (c3 c4 c5 : Option V) (F2 : Addr) (xs : List V) (rs : List RuleD), σ2 = [some (.ref a), some (.int (m : Int)), some (.ref F2), c3, c4, c5] ∧ G0 a b F2 H H2 xs rs ∧ rs.length ≤ 9 + (i + 1)) → Dn.nx σ2 H2) →
          tAsg (tOp rCat (tOp rCat (tSl (rSlL K) (tVar 2) tNoPart (tPart (tVar 4))) (tVar 5)) (tSl (rSlL K) (tVar 2) (tPart (tOp (rI0 fun i j => V.int (i + j)) (tVar 4) (tCall spDraw [] E0 (tCons (tVar 0) (tCons (tC (V.int 2)) tNil))))) tNoPart)) (gName 2) Dn
            [some (.ref a), some (.int (m : Int)), some (.ref F2), some (.int (0 + (i : Int))), some (.int (j : Int)), some (.ref M1)] H5 := by
        intro M1 zs us H5 hM nM dz hu g5 Dn fin
        have lz := paired_len dz
        refine (Evl.el_sl (K := K) (xs := xs) (lo := none) (hi := some (j : Int)) (Evl.ev_var rfl) Evl.eo_none (Evl.eo_some (Evl.ev_var rfl)) (Evl.sq_of g5.hF)) H5 (Ex.refl _) _ fun N1 H6 nN1 e6 hN1 => ?_
        rw [cut_head] at hN1
        refine ⟨_, rfl, ?_⟩
        refine ⟨N1, M1, _, _, rfl, rfl, hN1, e6 _ _ hM, size_of (by rw [List.length_take]; show min j xs.length + zs.length ≤ 100000; omega), fun N2 nN2 => ?_⟩
        have e7 := e6.trans (Ex.new (o := .lst (xs.take j ++ zs)) nN2)
        have g7 := g5.ex e7
        refine ⟨_, rfl, _, rfl, _, rfl, a, b, 2, rfl, g7.D, by decide, by decide, fun r2 H8 t0 t1 k8 D8 => ⟨_, _, rfl, rfl, _, rfl, ?_⟩⟩
        have g8 := g7.mv D k8 D8
        obtain ⟨r2, rfl⟩ := Int.eq_ofNat_of_zero_le t0
        have nN2a := (g5.ex e6).D.nea nN2
        have nN2b := (g5.ex e6).D.neb nN2
        have hN2 : H8 N2 = some (.lst (xs.take j ++ zs)) := k8 _ _ nN2a nN2b upd_same
        have dz8 : DrawnAt H8 zs us := (dz.ex e7).kp k8 g7.D
        refine ⟨F2, xs, rfl, Evl.sq_of g8.hF, fun N3 nN3 => ?_⟩
        have ec : cutV xs (some ((j : Int) + (r2 : Int))) none = xs.drop (j + r2) := by
          have := cut_from xs (j + r2)
          rw [Int.natCast_add] at this
          exact this
        have e9 : Ex H8 (upd H8 N3 (.lst (cutV xs (some ((j : Int) + (r2 : Int))) none))) := Ex.new nN3
        refine ⟨N2, N3, _, _, rfl, rfl, e9 _ _ hN2, upd_same, size_of (by rw [ec, List.length_append, List.length_take, List.length_drop]; show min j xs.length + zs.length + (xs.length - (j + r2)) ≤ 100000; omega), fun N4 nN4 => ?_⟩
        have g9 := g8.ex e9
        rw [ec] at nN4 ⊢
        rw [ec] at g9 e9
        have dn : DrawnAt (upd H8 N3 (.lst (xs.drop (j + r2)))) (xs.take j ++ zs ++ xs.drop (j + r2)) (rs.take j ++ us ++ rs.drop (j + r2)) := paired_app (paired_app (paired_take j g9.dr) (dz8.ex e9)) (paired_drop (j + r2) g9.dr)
        exact fin _ _ ⟨_, _, _, N4, _, _, rfl, g9.newF nN4 dn, by rw [List.length_append, List.length_append, List.length_take, List.length_drop]; omega⟩
      refine q_put ?_
      refine ⟨_, rfl, a, b, 2, rfl, g4.D, by decide, by decide, fun r1' H5 t0 t1 k5 D5 => ⟨rfl, _, rfl, ite2 (fun hb => ?_) (fun hb => ?_)⟩⟩
      · have g5 := g4.mv D k5 D5
        refine ⟨_, rfl, a, b, 2, rfl, by decide, g5.D, fun p rn H6 okn k6 D6 atn => ⟨size_of (by show 1 ≤ 100000; decide), fun M1 nM1 => ?_⟩⟩
        have g6 := g5.mv D k6 D6
        have e7 : Ex H6 (upd H6 M1 (.lst [.ref p])) := Ex.new nM1
        exact rest M1 [.ref p] [rn] _ upd_same ⟨D6.nea nM1, D6.neb nM1⟩ (.cons ⟨p, rfl, atn.same (ex_same e7), okn⟩ .nil) (Nat.le_refl _) (g6.ex e7) fun _ _ z => z
      · have g5 := g4.mv D k5 D5
        exact ⟨size_of (by show 0 ≤ 100000; decide), fun M1 nM1 => rest M1 [] [] _ upd_same ⟨D5.nea nM1, D5.neb nM1⟩ .nil (Nat.zero_le _) (g5.ex (Ex.new nM1)) fun _ _ z => z⟩
    obtain ⟨c3, c4, c5, F2, xs, rs, rfl, g, hl⟩ := hh
    refine Evl.q_cut (M := fun σ' H' => ∃ (c3 c4 c5 : Option V) (F2 : Addr) (xs : List V) (rs : List RuleD), σ' = [some (.ref a), some (.int (m : Int)), some (.ref F2), c3, c4, c5] ∧ G0 a b F2 H H' xs rs ∧ rs.length ≤ 100) ?_ (fun σ' H' hh => ?_)
    · refine ⟨_, rfl, a, b, 6, rfl, g.D, by decide, by decide, fun r H7 r0 r1 k7 D7 => ⟨rfl, _, rfl, ite2 (fun hb => ?_) (fun hb => ⟨_, _, _, F2, xs, rs, rfl, g.mv D k7 D7, hl⟩)⟩⟩
      have g7 := g.mv D k7 D7
      refine rd_rulesM (a := a) (b := b) (m := m) (fun _ => rfl) (fun _ => rfl) hm (fun R hR => ?_) (fun LB H8 xs rs k8 D8 hL2 hl hD f1 => ?_)
      · refine ⟨_, rfl, _, rfl, _, _, rfl, rfl, a, b, (m : Int) + 1, rfl, g7.D, by omega, by omega, fun r H8 s0 s1 k8 D8 => ⟨_, rfl, by omega, by omega, ?_⟩⟩
        exact hR H8 r.toNat k8 D8 (by omega)
      · have g8 := g7.mv D k8 D8
        exact ⟨_, _, _, LB, xs, rs, rfl, ⟨g8.kp, g8.D, g7.kp.none g7.D f1, hL2, hD⟩, by omega⟩
    obtain ⟨c3, c4, c5, F2, xs, rs, rfl, g, hl⟩ := hh
    refine Evl.q_cut (M := fun σ' H' => ∃ (xs : List V) (rs : List RuleD), σ' = [some (.ref a), some (.int (m : Int)), some (.ref F2), c3, c4, c5] ∧ G0 a b F2 H H' xs rs ∧ rs.length ≤ m) ?_ (fun σ' H' hh => ?_)
    · refine Evl.s_while (fun n σ' H' => ∃ (xs : List V) (rs : List RuleD), n = xs.length ∧ σ' = [some (.ref a), some (.int (m : Int)), some (.ref F2), c3, c4, c5] ∧ G0 a b F2 H H' xs rs ∧ rs.length ≤ 100) xs.length ⟨xs, rs, rfl, rfl, g, hl⟩ ?_
      rintro n σ' H1 ⟨xs, rs, rfl, rfl, g, hl⟩
      have lx := paired_len g.dr
      refine ⟨decide ((xs.length : Int) > (m : Int)), Evl.et_test (Evl.ev_op (Evl.ev_len (Evl.ev_var rfl) (Evl.sq_of g.hF)) (Evl.ev_var rfl) Evl.rv_I0), fun hb H2 e2 => ?_, fun hb H2 e2 => ⟨xs, rs, rfl, g.ex e2, by have := of_decide_eq_false hb; omega⟩⟩
      have hlt := of_decide_eq_true hb
      have g2 := g.ex e2
      refine ⟨fun σ' H' => ∃ (xs2 : List V) (rs2 : List RuleD), xs2.length + 1 = xs.length ∧ σ' = [some (.ref a), some (.int (m : Int)), some (.ref F2), c3, c4, c5] ∧ G0 a b F2 H H' xs2 rs2 ∧ rs2.length ≤ 100, fun σ2 H2 ⟨xs2, rs2, h1, h2⟩ => ⟨xs2.length, by omega, xs2, rs2, rfl, h2⟩, ?_⟩
      refine ⟨_, rfl, .inl ⟨rfl, _, Evl.sq_of g2.hF⟩, _, rfl, _, rfl, F2, xs, rfl, .inl (Evl.sq_of g2.hF), a, b, (xs.length : Int), rfl, g2.D, by omega, by omega, fun r H3 r0 r1 k3 D3 => ?_⟩
      obtain ⟨i, rfl⟩ := Int.eq_ofNat_of_zero_le r0
      have hi : i < xs.length := by omega
      have g3 := g2.mv D k3 D3
      obtain ⟨y, hy⟩ : ∃ y, xs[i]? = some y := ⟨_, List.getElem?_eq_getElem hi⟩
      refine ⟨F2, xs, (i : Int), i, y, rfl, rfl, g3.hF, by omega, by omega, (ixN_seq (Evl.ixN_nat hi)).1, hy, ?_⟩
      refine nx_go ⟨_, _, ?_, rfl, g3.erase D i, ?_⟩
      · rw [List.length_eraseIdx, if_pos hi]
        omega
      · exact Nat.le_trans (List.length_eraseIdx_le _ _) hl
    · obtain ⟨xs, rs, rfl, g, hl⟩ := hh
      refine ⟨_, rfl, a, b, rfl, g.D, fun t ks H2 sl k2 D2 ht => ?_⟩
      have g2 := g.mv D k2 D2
      refine ⟨_, rfl, size_of (by show 2 ≤ 100000; decide), fun p np => ?_⟩
      have e3 : Ex H2 (upd H2 p (.tup [.ref t, .ref F2])) := Ex.new np
      have g3 := g2.ex e3
      exact q p ks rs _ sl hl g3.kp g3.D ⟨t, F2, xs, upd_same, e3 _ _ ht, g3.hF, g3.dr, g3.nf⟩
end
end Ov


namespace Ov
open PySem PySem.Spec PyProof.Rows L2
open Evl (pss_cut tCut Ex Ev EvT EvL EvA EvU)
open TL (tl pre spl joinL spl_hit spl_miss spl_nil tl_append map_tl_inj spl_part1)
/-! ### a new desk -/
theorem sfld_go {K : PySem.W.Frag} {to te : TE} {f : Str} {D : Ends} {σ : L2.St} {H : Hp} (h : te σ H fun y H1 => to σ H1 fun x H2 => ∃ a C dx fs, x = .ref a ∧ H2 a = some (.ins C dx fs) ∧ Cls K C ∧ NoAttr K C f ∧ fs.length < 1000 ∧ D.nx σ (upd H2 a (.ins C dx (putF f y fs)))) : sFld K to te f D σ H := h
theorem seq_go {ts tz : TS} {D : Ends} {σ : L2.St} {H : Hp} (h : ts { D with nx := tz D } σ H) : tSeq ts tz D σ H := h
section
variable {K : PySem.W.Frag} {CR CP CQ CK : Addr} {H H' : Hp} {x C dx : Addr} {fs : List (Str × V)}
theorem Kx.t (hx : H x = some (.ins C dx fs)) (k : Kq x H H') {a : Addr} {xs : List V} (s : SqT K H a xs) : SqT K H' a xs := by
  rcases s with (s | ⟨u, s⟩) | s
  · have n := ne_of s hx fun z => nomatch z
    exact .inl (.inl (k _ _ n n s))
  · have n := ne_of s hx fun z => nomatch z
    exact .inl (.inr ⟨u, k _ _ n n s⟩)
  · exact .inr s
theorem ne_insF {H : Hp} {x y C d C' d' : Addr} {f f' : List (Str × V)} (z : Str) (h1 : H x = some (.ins C d f)) (h2 : H y = some (.ins C' d' f')) (n : f.lookup z ≠ f'.lookup z) : x ≠ y := fun e => by
  subst e
  rw [h1] at h2
  cases h2
  exact n rfl
theorem rf_kind (k : Str) (t d : Addr) : (rf k t d).lookup ("kind" : Str) = some (.str k) := by kernel_rfl
theorem Kx.rules (hx : H x = some (.ins C dx fs)) (hf : fs.lookup ("kind" : Str) = none) (k : Kq x H H') : ∀ {xs : List V} {rs : List RuleD}, RulesAt K CR H xs rs → RulesAt K CR H' xs rs
  | _, _, .nil => .nil
  | _, _, .cons ⟨p, h1, dx, t, d, h2, h3, h4⟩ tl => by
    have n := ne_insF "kind" h2 hx (by rw [rf_kind, hf]; exact fun z => nomatch z)
    exact .cons ⟨p, h1, dx, t, d, k _ _ n n h2, Kx.t hx k h3, Kx.t hx k h4⟩ (Kx.rules hx hf k tl)
theorem Kx.plan {p : Addr} {ks : List Str} {rs : List RuleD} (hx : H x = some (.ins C dx fs)) (hf : fs.lookup ("kind" : Str) = none) (hg : fs.lookup ("raises" : Str) = none) (k : Kq x H H') (g : PlanIs K CR CP ks rs p H) : PlanIs K CR CP ks rs p H' := by
  obtain ⟨xs, ⟨dx, t, d, h3, h4, h5⟩, h6⟩ := g
  have n := ne_insF "raises" h3 hx (by rw [pf_raises, hg]; exact fun z => nomatch z)
  exact ⟨xs, ⟨dx, t, d, k _ _ n n h3, Kx.t hx k h4, Kx.t hx k h5⟩, Kx.rules hx hf k h6⟩
theorem evP_noneK {σ : L2.St} {df0 df1 : Addr} (dfT0 : ∀ H, SqT K H df0 []) (dfT : ∀ H, SqT K H df1 []) : EvP (tMake CP (spPlanInitG K CR CP sortedOf) [V.ref df0, V.ref df1] E0 tNil) σ H (PlanIs K CR CP [] []) := fun H1 e1 Q q => by
  refine run_mkP (ks := []) (rs := []) (.inr (dfT0 _)) ⟨Nat.zero_le _, List.Pairwise.nil, fun k hk => nomatch hk⟩ (.inr (dfT _)) .nil (Nat.zero_le _) (Ex.refl H1) fun p H4 ys so e4 po ro => ?_
  have ey : ys = [] := List.perm_nil.mp so.1
  rw [ey] at po
  exact q p H4 e4 ⟨[], po, ro⟩
end
def spDeskInit (K : PySem.W.Frag) (CR CP CQ CK : Addr) : Sp := fun vs H Q _ => ∃ (x dx : Addr), vs = [.ref x] ∧ H x = some (.ins CK dx []) ∧ ∀ q H', H q = none → Kq x H H' → DeskAt K CR CP CQ CK H' x q ⟨[], [], 1, []⟩ → Q .non H'
section
variable {P : Program} {w : World} {K : PySem.W.Frag} {mg : Str → Option Value} {base : Heap} {a_LETTERS a_LETTER_TESTS a_LETTER_DEEDS a_ANSWER_TESTS a_ANSWER_DEEDS CR CP CQ CK aF aG aA df0 df1 : Addr} {tA tN tCm tHd tAn tM tNu : Tok}
theorem scDeskInit : FnScope ["self"] ["self"] (defScope sDeskInit) := ⟨rfl, rfl, rfl, by decide +kernel, rfl, by decide +kernel, by decide +kernel⟩
theorem ok_desk_init {f fQI fI : Addr} {fd fdQI fdI : FuncData} {dsQ ds2 : List Value} (F : Fun K "__init__" "Desk.__init__" sDeskInit f fd) (TP : TxP K mg CP) (TK : TxK K CK) (g_Post : mg "Post" = some (.ref CQ))
    (mkQ : Mk K CQ fQI) (Q_qinit : FnOk P w K mg base CX0 1 fQI fdQI ["self", "plan", "days"] (spPostInit K CR CP CQ)) (b_qinit1 : Binds K fdQI ["self", "plan", "days"] dsQ) (dvQ : Vals [.int 1] dsQ)
    (mkP : Mk K CP fI) (Q_init : FnOk P w K mg base CX0 3 fI fdI ["self", "raises", "rules"] (spPlanInitG K CR CP sortedOf)) (b_init2 : Binds K fdI ["self", "raises", "rules"] ds2) (dv2 : Vals [V.ref df0, V.ref df1] ds2) (dfT0 : ∀ H, SqT K H df0 []) (dfT1 : ∀ H, SqT K H df1 []) : FnOk P w K mg base CX0 5 f fd ["self"] (spDeskInit K CR CP CQ CK) := by
  refine F.ok scDeskInit (fun vs H Q E h => ?_) (fun cdv A outer s H vs Q E hr h => ?_)
  · obtain ⟨x, dx, rfl, _⟩ := h
    rfl
  · obtain ⟨x, dx, rfl, hx, q⟩ := h
    refine ⟨_, pss_cons (ps_fld (pv 0) (pe_make0 (sp := spPlanInitG K CR CP sortedOf) (E := E0) mkP Q_init (hr.mono (by decide)) rfl TP.g_Plan b_init2 dv2 pass0) rfl)
      (pss_one (ps_fld (pv 0) (pe_make (sp := spPostInit K CR CP CQ) (E := E0) mkQ Q_qinit (hr.mono (by decide)) rfl g_Post b_qinit1 dvQ pass0 (pa_cons (pe_fld (pv 0) rfl) pa_nil)) rfl)), ?_⟩
    refine seq_go (sfld_go ?_)
    refine evP_noneK (K := K) (CR := CR) (CP := CP) dfT0 dfT1 H (Ex.refl _) _ fun p H1 e1 pp => ?_
    refine (Evl.ev_var (i := 0) rfl) H1 (Ex.refl _) _ fun H2 e2 => ?_
    have e12 := e1.trans e2
    have hx2 := e12 _ _ hx
    refine ⟨x, CK, dx, [], rfl, hx2, TK.cl, TK.plan, by show 0 < 1000; decide, ?_⟩
    have k2 : Kq x H2 (upd H2 x (.ins CK dx (putF "plan" (.ref p) []))) := fun y o n1 _ hy => by
      rw [upd_ne n1]
      exact hy
    have pp3 := Kx.plan hx2 rfl rfl k2 (pp.ex e2)
    have hx3 : upd H2 x (.ins CK dx (putF "plan" (.ref p) [])) x = some (.ins CK dx [("plan", .ref p)]) := upd_same.trans (by kernel_rfl)
    generalize upd H2 x (.ins CK dx (putF "plan" (.ref p) [])) = H3 at k2 pp3 hx3
    refine nx_go (sfld_go ?_)
    refine evP_postK (K := K) (CR := CR) (CP := CP) (CQ := CQ) (ks := []) (rs := []) (n := 1) (σ := L2.start ["self"] [.ref x]) (fun H4 e4 Q4 q4 => (Evl.ea_cons (ev_fld (fs := [("plan", .ref p)]) (Evl.ev_var rfl) (e4 _ _ hx3) TK.cl TK.plan (by kernel_rfl)) Evl.ea_nil) H4 (Ex.refl _) _ fun H5 e5 => q4 p _ H5 e5 (pp3.ex (e4.trans e5)) rfl) H3 (Ex.refl _) _ fun q' H4 e4 ⟨pa, nq⟩ => ?_
    refine (Evl.ev_var (i := 0) rfl) H4 (Ex.refl _) _ fun H5 e5 => ?_
    have e45 := e4.trans e5
    have hx5 := e45 _ _ hx3
    refine ⟨x, CK, dx, _, rfl, hx5, TK.cl, TK.post, by show 1 < 1000; decide, ?_⟩
    have k5 : Kq x H5 (upd H5 x (.ins CK dx (putF "post" (.ref q') [("plan", .ref p)]))) := fun y o n1 _ hy => by
      rw [upd_ne n1]
      exact hy
    have nd : q' ≠ x := fun z => by
      rw [z, hx3] at nq
      cases nq
    have nq0 : H q' = none := by
      cases eq : H q' with
      | none => rfl
      | some o => exact absurd (((Kq.of e12).trans k2) _ _ nd nd eq) (by rw [nq]; exact fun z => nomatch z)
    exact q q' _ nq0 (((((Kq.of e12).trans k2).trans (Kq.of e45))).trans k5) ⟨dx, p, upd_same.trans (by kernel_rfl), (Kd.kn (v := .ref p) hx5 (by kernel_rfl) k5).plan (pp3.ex e45), Kd.post (v := .ref p) hx5 (by kernel_rfl) k5 (pa.ex e5) nd⟩
end
/-! ### commands -/
inductive Cmd
  | plan | post | send | come | shows | undo
def Cmd.name : Cmd → Str
  | .plan => "plan" | .post => "post" | .send => "send" | .come => "come" | .shows => "shows" | .undo => "undo"
def Cmd.act : Cmd → DActs
  | .plan => spPlanA | .post => spPostA | .send => spSendA | .come => spComeA | .shows => spShowsA | .undo => spUndoA
def spSay (K : PySem.W.Frag) (CR CP CQ CK : Addr) : Sp := fun vs H Q E => ∃ c : Cmd, spSayX c.name (c.act K CR CP CQ CK) vs H Q E
theorem FnOk.any {ι : Type} {P : Program} {w : World} {K : PySem.W.Frag} {mg : Str → Option Value} {base : Heap} {CX : CXT} {k : Nat} {f : Addr} {fd : FuncData} {ps : List Str} {sp : ι → Sp} (i0 : ι) (h : ∀ i, FnOk P w K mg base CX k f fd ps (sp i)) : FnOk P w K mg base CX k f fd ps (fun vs H Q E => ∃ i, sp i vs H Q E) :=
  ⟨fun vs H Q E ⟨i, q⟩ => (h i).len vs H Q E q, fun A outer s H args us vs Q E hr he hb hv ⟨i, q⟩ => (h i).run A outer s H args us vs Q E hr he hb hv q⟩
section
variable {K : PySem.W.Frag} {CR CP CQ CK : Addr} {H : Hp} {d q : Addr} {m : PoM} {σ : L2.St} {te : TE} {Q : VK}
theorem say_go {c : Cmd} {z : Str} {ws : List Str} (da : DeskAt K CR CP CQ CK H d q m) {i : Nat} (ho : σ[i]? = some (some (.ref d))) (hz : Ev te σ H (.str z)) (cm : CmdOf z c.name ws) (k : ∀ W H', Ex H H' → H' W = some (.lst (ws.map V.str)) → c.act K CR CP CQ CK [.ref d, .ref W] H' Q E0) :
    tMeth CK "say" (spSay K CR CP CQ CK) [] E0 (tVar i) (tCons te tNil) σ H Q := by
  obtain ⟨dx, p, hd, _⟩ := da
  exact ⟨_, ho, d, dx, _, rfl, hd, by kernel_rfl, (Evl.ea_cons hz Evl.ea_nil) H (Ex.refl _) _ fun H1 e1 => ⟨c, d, z, ws, rfl, cm, fun W H2 nW e2 hW => k W H2 (e1.trans e2) hW⟩⟩
end
theorem send_whole : ∀ k ∈ (["ask", "stop", "day", "off"] : List Str), (("send " : Str) ++ k).length ≤ 15000 ∧ 10 ∉ tl (("send " : Str) ++ k) ∧ Txt.split (("send " : Str) ++ k) " " = (["send", k] : List Str) ∧ ("" : Str) ∉ (["send", k] : List Str) := by decide +kernel
theorem cmd_send0 {k : Str} (h : k ∈ lettersL) : CmdOf (("send " : Str) ++ k) "send" [k] := by
  obtain ⟨h1, h2, h3, h4⟩ := send_whole k ((by decide +kernel : ∀ k ∈ lettersL, k ∈ (["ask", "stop", "day", "off"] : List Str)) k h)
  refine ⟨h1, h2, h3, h4, ["word", "word number"], [true, false], by decide +kernel, by decide, .cons (.yes (ss := ["word"]) (by decide +kernel) (by decide +kernel) (by decide +kernel) rfl fun i w s hw hs => ?_) (.cons (.no (ss := ["word", "number"]) (by decide +kernel) (by decide +kernel) (by decide +kernel) (by show 1 ≠ 2; decide)) .nil), rfl⟩
  match i, hw, hs with
  | 0, hw, hs =>
    cases hs
    exact .word
  | i + 1, hw, hs => cases hs
theorem send_day : ∀ k ∈ lettersL, ∀ j < 4, (((("send " : Str) ++ k) ++ " ") ++ strI j).length ≤ 15000 ∧ 10 ∉ tl (((("send " : Str) ++ k) ++ " ") ++ strI j) ∧ Txt.split (((("send " : Str) ++ k) ++ " ") ++ strI j) " " = (["send", k, strI j] : List Str) ∧ ("" : Str) ∉ (["send", k, strI j] : List Str) := by decide +kernel
theorem form_wn {x : Str} {j : Nat} (hj : j < 100) : HasForm [x, strI j] "word number" true := by
  refine .yes (ss := ["word", "number"]) (by decide +kernel) (by decide +kernel) (by decide +kernel) rfl fun i w s hw hs => ?_
  match i, hw, hs with
  | 0, hw, hs =>
    cases hs
    exact .word
  | 1, hw, hs =>
    cases hs
    cases hw
    exact .num hj
  | i + 2, hw, hs => cases hs
theorem cmd_sendD {k : Str} {j : Nat} (h : k ∈ lettersL) (hj : j < 4) : CmdOf (((("send " : Str) ++ k) ++ " ") ++ strI j) "send" [k, strI j] := by
  obtain ⟨h1, h2, h3, h4⟩ := send_day k h j hj
  exact ⟨h1, h2, h3, h4, ["word", "word number"], [false, true], by decide +kernel, by decide, .cons (.no (ss := ["word"]) (by decide +kernel) (by decide +kernel) (by decide +kernel) (by show 2 ≠ 1; decide)) (.cons (form_wn (by omega)) .nil), rfl⟩
def namesL : List Str := ["ann", "bob", "x", "zzzz"]
theorem come_say : ∀ g ∈ namesL, ∀ j < 48, (((("come " : Str) ++ g) ++ " ") ++ strI j).length ≤ 15000 ∧ 10 ∉ tl (((("come " : Str) ++ g) ++ " ") ++ strI j) ∧ Txt.split (((("come " : Str) ++ g) ++ " ") ++ strI j) " " = (["come", g, strI j] : List Str) ∧ ("" : Str) ∉ (["come", g, strI j] : List Str) := by decide +kernel
theorem cmd_come {g : Str} {j : Nat} (h : g ∈ namesL) (hj : j < 48) : CmdOf (((("come " : Str) ++ g) ++ " ") ++ strI j) "come" [g, strI j] := by
  obtain ⟨h1, h2, h3, h4⟩ := come_say g h j hj
  exact ⟨h1, h2, h3, h4, ["word number"], [true], by decide +kernel, by decide, .cons (form_wn (by omega)) .nil, rfl⟩
theorem shows_say : ∀ g ∈ namesL, ∀ j < 4, (((("shows " : Str) ++ g) ++ " ") ++ strI j).length ≤ 15000 ∧ 10 ∉ tl (((("shows " : Str) ++ g) ++ " ") ++ strI j) ∧ Txt.split (((("shows " : Str) ++ g) ++ " ") ++ strI j) " " = (["shows", g, strI j] : List Str) ∧ ("" : Str) ∉ (["shows", g, strI j] : List Str) := by decide +kernel
theorem cmd_shows {g : Str} {j : Nat} (h : g ∈ namesL) (hj : j < 4) : CmdOf (((("shows " : Str) ++ g) ++ " ") ++ strI j) "shows" [g, strI j] := by
  obtain ⟨h1, h2, h3, h4⟩ := shows_say g h j hj
  exact ⟨h1, h2, h3, h4, ["word number"], [true], by decide +kernel, by decide, .cons (form_wn (by omega)) .nil, rfl⟩
theorem cmd_undo : CmdOf "undo" "undo" [] := ⟨by decide +kernel, by decide +kernel, by decide +kernel, by decide +kernel, [""], [true], by decide +kernel, by decide, .cons (.yes (ss := []) (by decide +kernel) (by decide +kernel) (by decide +kernel) rfl fun i w s hw hs => (by cases hw)) .nil, rfl⟩
theorem post_say : ∀ j < 5, 0 < j → (("post " : Str) ++ strI j).length ≤ 15000 ∧ 10 ∉ tl (("post " : Str) ++ strI j) ∧ Txt.split (("post " : Str) ++ strI j) " " = (["post", strI j] : List Str) ∧ ("" : Str) ∉ (["post", strI j] : List Str) ∧ decide (strI j ∈ (["1", "2", "3", "4"] : List Str)) = true := by decide +kernel
theorem cmd_post {j : Nat} (h0 : 0 < j) (hj : j < 5) : CmdOf (("post " : Str) ++ strI j) "post" [strI j] := by
  obtain ⟨h1, h2, h3, h4, h5⟩ := post_say j hj h0
  refine ⟨h1, h2, h3, h4, ["days"], [true], by decide +kernel, by decide, .cons (.yes (ss := ["days"]) (by decide +kernel) (by decide +kernel) (by decide +kernel) rfl fun i w s hw hs => ?_) .nil, rfl⟩
  match i, hw, hs with
  | 0, hw, hs =>
    cases hs
    cases hw
    have := @IsOf.days (strI j)
    rw [h5] at this
    exact this
  | i + 1, hw, hs => cases hs
theorem first_small {ks : List Str} (h1 : ks.length ≤ 4) (h2 : ∀ k ∈ ks, k ∈ lettersL) : (firstLine ks).length ≤ 100 :=
  (by decide +kernel : ∀ ks ∈ allKs 4, (firstLine ks).length ≤ 100) ks (in_allKs h1 h2)
theorem words_small {ks : List Str} {rs : List RuleD} (h1 : ks.length ≤ 4) (h2 : ∀ k ∈ ks, k ∈ lettersL) (ok : ∀ r ∈ rs, r.Ok) (hz : rs.length ≤ 10) : (planWords ks rs).length ≤ 3000 := by
  have a := join_len " ; " (linesOf ks rs)
  have b := sum_small (linesOf ks rs) 250 (lines_all (Pp := fun x => x.length ≤ 250) (Nat.le_trans (first_small h1 h2) (by decide)) fun r hr => ok_lenD (ok r hr))
  have c : (linesOf ks rs).length = rs.length + 1 := by
    unfold linesOf
    rw [List.length_cons, List.length_map]
  have l3 : (" ; " : Str).length = 3 := by decide +kernel
  rw [c, l3] at a
  rw [c] at b
  unfold planWords
  omega
theorem cmd_plan {ks : List Str} {rs : List RuleD} (h1 : ks.length ≤ 4) (h2 : ∀ k ∈ ks, k ∈ lettersL) (ok : ∀ r ∈ rs, r.Ok) (gd : ∀ r ∈ rs, r.Good) (hz : rs.length ≤ 10) : CmdOf (("plan " : Str) ++ planWords ks rs) "plan" (Txt.split (planWords ks rs) " ") := by
  have ws := words_small h1 h2 ok hz
  have l5 : ("plan " : Str).length = 5 := by decide +kernel
  have e : ("plan " : Str) ++ planWords ks rs = ("plan" : Str) ++ " " ++ planWords ks rs := by
    rw [show ("plan " : Str) = ("plan" : Str) ++ " " by decide +kernel]
  have sn : Txt.split (planWords ks rs) " " ≠ [] := fun z => by
    have j := PySem.StrLaws.join_split (planWords ks rs) " "
    rw [z] at j
    have k := words_ok h2 gd
    rw [← j] at k
    exact absurd k (by decide +kernel)
  refine ⟨by rw [Str.length_append, l5]; omega, ?_, by rw [e]; exact head_word (by decide +kernel), ?_, ["word .."], [true], by decide +kernel, by decide, .cons (.more sn) .nil, rfl⟩
  · rw [tl_append, List.mem_append]
    rintro (z | z)
    · exact absurd z (by decide +kernel)
    · exact words_line h2 gd z
  · intro z
    rcases List.mem_cons.mp z with z | z
    · exact absurd z (by decide +kernel)
    · exact ok_parts (words_ok h2 gd) _ z rfl
end Ov


namespace Ov
open PySem PySem.Spec PyProof.Rows L2
open Evl (pss_cut tCut Ex Ev EvT EvL EvA EvU)
open TL (tl pre spl joinL spl_hit spl_miss spl_nil tl_append map_tl_inj spl_part1)
/-! ### every beginning of what was done is in order (pure) -/
structure Pv (m : PoM) : Prop where
  all : ∀ i, PInv ⟨m.ks, m.rs, m.days, m.ds.take i⟩
  dy : 0 < m.days ∧ m.days ≤ 4
theorem Pv.now {m : PoM} (h : Pv m) : PInv m := by
  have := h.all m.ds.length
  rw [List.take_length] at this
  exact this
theorem Pv.add {m : PoM} {x : DD} (h : Pv m) (p : PInv (m.do x)) : Pv (m.do x) := by
  refine ⟨fun i => ?_, h.dy⟩
  show PInv ⟨m.ks, m.rs, m.days, (m.ds ++ [x]).take i⟩
  by_cases c : i ≤ m.ds.length
  · rw [List.take_append_of_le_length c]
    exact h.all i
  · rw [List.take_of_length_le (by rw [List.length_append]; show m.ds.length + 1 ≤ i; omega)]
    exact p
theorem Pv.drop {m : PoM} (h : Pv m) : Pv { m with ds := m.ds.dropLast } := by
  refine ⟨fun i => ?_, h.dy⟩
  show PInv ⟨m.ks, m.rs, m.days, m.ds.dropLast.take i⟩
  rw [List.dropLast_eq_take, List.take_take]
  exact h.all _
theorem Pv.start {ks : List Str} {rs : List RuleD} {n : Nat} (g : ∀ r ∈ rs, r.Good) (hz : rs.length ≤ 1000) (hn : 0 < n ∧ n ≤ 4) : Pv ⟨ks, rs, n, []⟩ := by
  refine ⟨fun i => ?_, hn⟩
  show PInv ⟨ks, rs, n, ([] : List DD).take i⟩
  rw [List.take_nil]
  exact PInv.start g hz
theorem view_lt {m : PoM} {g : Str} {d : Nat} {mm : CM} (I : PInv m) (h : Link m g d mm) : ∀ i, mm.view = some i → i ≤ m.ds.length := fun i e => by
  have wf := h.wf I
  have l := sent_len_le m
  have e2 := h.s.symm.trans e
  have : i < mm.letters.length := by
    unfold CM.showing at e2
    split at e2
    · exact wf.whole i e2
    · rename_i j q
      cases e2
      exact wf.own _ q
  rw [h.len] at this
  omega
theorem names_ok : ∀ g ∈ namesL, nameB g = true ∧ PyData.canLay0 (.str g) = true ∧ g.length ≤ 100 := by decide +kernel
theorem kinds_ok : ∀ k ∈ (["ask", "day", "off", "stop", "day"] : List Str), k ∈ lettersL ∧ (k ∈ (["ask", "stop"] : List Str) → wholeKind k = true) ∧ (k ∉ (["ask", "stop"] : List Str) → wholeKind k = false) ∧ k.length ≤ 100 := by decide +kernel
/-! ### two posts, one of them at a desk -/
def Kl (H H' : Hp) : Prop := ∀ x o, (∀ l, o ≠ HO.lst l) → H x = some o → H' x = some o
structure Bo (K : PySem.W.Frag) (CR CP CQ CK : Addr) (B : Hp) (a b d q r : Addr) (m1 m2 : PoM) (H : Hp) : Prop where
  D : Deal H a b
  da : DeskAt K CR CP CQ CK H d q m1
  pr : PostAt K CR CP CQ H r m2
  nq : q ≠ r
  ex : Ex B H
  nB : B a = none ∧ B b = none ∧ B q = none ∧ B r = none
section
variable {K : PySem.W.Frag} {CR CP CQ CK : Addr} {B H H' : Hp} {a b d q r : Addr} {m m1 m2 m1' m2' : PoM} {σ : L2.St} {te to ta tb : TE} {tr : TA} {vs dvs : List V} {Q : VK}
theorem Kl.t (k : Kl H H') {a : Addr} {xs : List V} (h : SqT K H a xs) : SqT K H' a xs := by
  rcases h with (h | ⟨u, h⟩) | h
  · exact .inl (.inl (k _ _ (fun l z => nomatch z) h))
  · exact .inl (.inr ⟨u, k _ _ (fun l z => nomatch z) h⟩)
  · exact .inr h
theorem Kl.rules (k : Kl H H') : ∀ {xs : List V} {rs : List RuleD}, RulesAt K CR H xs rs → RulesAt K CR H' xs rs
  | _, _, .nil => .nil
  | _, _, .cons ⟨p, h1, dx, t, d, h2, h3, h4⟩ tl => .cons ⟨p, h1, dx, t, d, k _ _ (fun l z => nomatch z) h2, k.t h3, k.t h4⟩ (Kl.rules k tl)
theorem Kl.plan {p : Addr} {ks : List Str} {rs : List RuleD} (k : Kl H H') (h : PlanIs K CR CP ks rs p H) : PlanIs K CR CP ks rs p H' := by
  obtain ⟨xs, ⟨dx, t, d, h3, h4, h5⟩, h6⟩ := h
  exact ⟨xs, ⟨dx, t, d, k _ _ (fun l z => nomatch z) h3, k.t h4, k.t h5⟩, k.rules h6⟩
theorem Kl.tups (k : Kl H H') : ∀ t zs, H t = some (.tup zs) → H' t = some (.tup zs) := fun t zs h => k _ _ (fun l z => nomatch z) h
theorem Kl.post (k : Kl H H') (h : PostAt K CR CP CQ H q m) : PostAt K CR CP CQ H' q m := by
  obtain ⟨dx, p, dd, xs, h1, h2, h3, h4⟩ := h
  exact ⟨dx, p, dd, xs, k _ _ (fun l z => nomatch z) h1, k.plan h2, k.t h3, h4.keep k.tups⟩
theorem Kl.desk (k : Kl H H') (h : DeskAt K CR CP CQ CK H d q m) : DeskAt K CR CP CQ CK H' d q m := by
  obtain ⟨dx, p, h1, h2, h3⟩ := h
  exact ⟨dx, p, k _ _ (fun l z => nomatch z) h1, k.plan h2, k.post h3⟩
theorem Kl.kp (k : Kp a b H H') (D : Deal H a b) : Kl H H' := fun x o n h => by
  obtain ⟨ns, m, h1, h2, _⟩ := D.ex
  exact k x o (ne_of h h1 fun z => n _ z) (ne_of h h2 fun z => n _ z) h
theorem Deal.kq (D : Deal H a b) (k : Kq q H H') (h : PostAt K CR CP CQ H q m) : Deal H' a b := by
  obtain ⟨ns, mm, h1, h2, h3⟩ := D.ex
  obtain ⟨dx, p, dd, xs, g1, _⟩ := h
  have n1 : a ≠ q := ne_of h1 g1 fun z => nomatch z
  have n2 : b ≠ q := ne_of h2 g1 fun z => nomatch z
  exact ⟨ns, mm, k _ _ n1 n1 h1, k _ _ n2 n2 h2, h3⟩
theorem Bo.ext (h : Bo K CR CP CQ CK B a b d q r m1 m2 H) (e : Ex H H') : Bo K CR CP CQ CK B a b d q r m1 m2 H' := ⟨h.D.keep (ex_same e), h.da.ext e, h.pr.ex e, h.nq, h.ex.trans e, h.nB⟩
theorem Bo.kp (h : Bo K CR CP CQ CK B a b d q r m1 m2 H) (k : Kp a b H H') (D : Deal H' a b) : Bo K CR CP CQ CK B a b d q r m1 m2 H' :=
  ⟨D, (Kl.kp k h.D).desk h.da, (Kl.kp k h.D).post h.pr, h.nq, fun x o hx => k x o (ne_of_none hx h.nB.1) (ne_of_none hx h.nB.2.1) (h.ex x o hx), h.nB⟩
theorem DeskAt.post (h : DeskAt K CR CP CQ CK H d q m) : PostAt K CR CP CQ H q m := by
  obtain ⟨dx, p, h1, h2, h3⟩ := h
  exact h3
theorem Bo.desk (h : Bo K CR CP CQ CK B a b d q r m1 m2 H) (k : Kq q H H') (da : DeskAt K CR CP CQ CK H' d q m1') : Bo K CR CP CQ CK B a b d q r m1' m2 H' :=
  ⟨h.D.kq k h.da.post, da, h.da.post.keepKq k h.pr h.nq.symm, h.nq, fun x o hx => k x o (ne_of_none hx h.nB.2.2.1) (ne_of_none hx h.nB.2.2.1) (h.ex x o hx), h.nB⟩
theorem Bo.post (h : Bo K CR CP CQ CK B a b d q r m1 m2 H) (k : Kq r H H') (pr : PostAt K CR CP CQ H' r m2') : Bo K CR CP CQ CK B a b d q r m1 m2' H' :=
  ⟨h.D.kq k h.pr, h.da.kr h.pr k h.nq, pr, h.nq, fun x o hx => k x o (ne_of_none hx h.nB.2.2.2) (ne_of_none hx h.nB.2.2.2) (h.ex x o hx), h.nB⟩
theorem post_meth {sp : Sp} {x : Str} {i : Nat} (pa : PostAt K CR CP CQ H q m) (ho : σ[i]? = some (some (.ref q))) (n : x ≠ ("plan" : Str) ∧ x ≠ ("days" : Str) ∧ x ≠ ("deeds" : Str)) (ha : EvA tr σ H vs) (hs : ∀ H1, Ex H H1 → PostAt K CR CP CQ H1 q m → sp (.ref q :: (vs ++ dvs)) H1 Q E0) :
    tMeth CQ x sp dvs E0 (tVar i) tr σ H Q := by
  obtain ⟨dx, fs, h1, h2⟩ := pa.fld
  exact ⟨_, ho, q, dx, fs, rfl, h1, h2 x n.1 n.2.1 n.2.2, ha H (Ex.refl _) _ fun H2 e2 => hs H2 e2 (pa.ex e2)⟩
theorem eq_same {x : Str} (k : ∀ H', Ex H H' → Q (.bl true) H') : rEq (.str x) (.str x) H Q := (Evl.rv_eq (x := .str x) (y := .str x) rfl) H (Ex.refl _) Q fun H' e => by
  rw [decide_eq_true rfl]
  exact k H' e
theorem op_goK {rr : R2} (h : ta σ H fun x H1 => tb σ H1 fun y H2 => rr x y H2 Q) : tOp rr ta tb σ H Q := h
theorem par_goK {i j : Nat} {t : TA} {tz : TS} {D : Ends} (h : t σ H fun vs H1 => ∃ v w, vs = [v, w] ∧ tz D ((σ.set i (some v)).set j (some w)) H1) : tSeq (tPar i j t) tz D σ H := h
theorem cons_goK {t : TA} {Q : List V → Hp → Prop} (h : te σ H fun x H1 => t σ H1 fun ys H2 => Q (x :: ys) H2) : tCons te t σ H Q := h
theorem call_goK {sp : Sp} {E : XK} {t : TA} (h : t σ H fun vs H1 => sp (vs ++ dvs) H1 Q E) : tCall sp dvs E t σ H Q := h
theorem ifE_goK {t : TT} (h : t σ H fun c H1 => if c = true then ta σ H1 Q else tb σ H1 Q) : tIf t ta tb σ H Q := h
end
def spAtBoth (K : PySem.W.Frag) (CR CP CQ CK : Addr) : Sp := fun vs H Q _ => ∃ (B : Hp) (a b d q r : Addr) (m : PoM), vs = [.ref a, .ref d, .ref r, .int (m.days : Int)] ∧ Bo K CR CP CQ CK B a b d q r m m H ∧ Pv m ∧ m.ds.length ≤ 38 ∧ ∀ m' H', Bo K CR CP CQ CK B a b d q r m' m' H' → Pv m' → m'.ds.length ≤ m.ds.length + 1 → m'.days = m.days → Q (.bl true) H'
section
variable {P : Program} {w : World} {K : PySem.W.Frag} {mg : Str → Option Value} {base : Heap} {a_LETTERS a_LETTER_TESTS a_LETTER_DEEDS a_ANSWER_TESTS a_ANSWER_DEEDS CR CP CQ CK : Addr} {tA tN tCm tHd tAn : Tok}
theorem len_do (m : PoM) (x : DD) : (m.do x).ds.length = m.ds.length + 1 := by
  show (m.ds ++ [x]).length = _
  rw [List.length_append]
  rfl
theorem log_sent {m : PoM} (h : m.ds.length ≤ 2000) : ((m.sent.length - 1 : Int)).natAbs.log2 < 1920 := by
  have a1 := sent_len_le m
  exact Nat.lt_of_lt_of_le (log_small (k := 20) (Nat.lt_of_le_of_lt (show (m.sent.length - 1 : Int).natAbs ≤ 3000 by omega) (by decide)) (by decide)) (by decide)
theorem ev_seen {σ : L2.St} {H : Hp} {v : Option Nat} (h : σ[9]? = some (some (ov v))) (hv : ∀ i, v = some i → i ≤ 2000) : Ev (tIf (tTest (tOp (fun x y H Q => y = V.non ∧ Q (V.bl (decide (x = V.non))) H) (tVar 9) (tC .non))) (tC (.str "nothing")) (tCB (fun xs H Q => ∃ i, xs = [V.int i] ∧ i.natAbs.log2 < 1920 ∧ Q (V.str (toString i)) H) (tCons (tVar 9) tNil))) σ H (.str (seenT v)) := by
  cases v with
  | none => exact Evl.ev_if (b := true) (Evl.et_is (Evl.et_test (Evl.ev_op (x := .non) (Evl.ev_var h) Evl.ev_c rv_isN)) rfl) (fun _ => Evl.ev_c) (fun z => nomatch z)
  | some i => exact Evl.ev_if (b := false) (Evl.et_is (Evl.et_test (Evl.ev_op (x := .int (i : Int)) (Evl.ev_var h) Evl.ev_c rv_isN)) rfl) (fun z => nomatch z) (fun _ => ev_strInt (n := (i : Int)) (Evl.ev_var h) (Nat.lt_of_lt_of_le (log_small (k := 20) (Nat.lt_of_le_of_lt (show ((i : Int)).natAbs ≤ 2000 by have := hv i rfl; omega) (by decide)) (by decide)) (by decide)))
end
end Ov


namespace Ov
open PySem PySem.Spec PyProof.Rows L2
open Evl (pss_cut tCut Ex Ev EvT EvL EvA EvU)
open TL (tl pre spl joinL spl_hit spl_miss spl_nil tl_append map_tl_inj spl_part1)
/-! ### what is no instance stays -/
def Ki (H H' : Hp) : Prop := ∀ x o, (∀ C dx fs, o ≠ HO.ins C dx fs) → H x = some o → H' x = some o
theorem Ki.of {H H' : Hp} {d C dx : Addr} {fs : List (Str × V)} (h : H d = some (.ins C dx fs)) (k : Kq d H H') : Ki H H' := fun x o n hx => by
  have e : x ≠ d := fun z => by
    subst z
    rw [h] at hx
    cases hx
    exact n _ _ _ rfl
  exact k x o e e hx
section
variable {H H' : Hp} {a b p : Addr} {ks : List Str} {rs : List RuleD}
theorem Ki.deal (k : Ki H H') (D : Deal H a b) : Deal H' a b := by
  obtain ⟨ns, m, h1, h2, h3⟩ := D.ex
  exact ⟨ns, m, k _ _ (fun _ _ _ z => nomatch z) h1, k _ _ (fun _ _ _ z => nomatch z) h2, h3⟩
theorem Ki.drawn (k : Ki H H') : ∀ {xs : List V} {rs : List RuleD}, DrawnAt H xs rs → DrawnAt H' xs rs
  | _, _, .nil => .nil
  | _, _, .cons ⟨p, h1, ⟨t, d, h2, h3, h4⟩, h5⟩ tl => .cons ⟨p, h1, ⟨t, d, k _ _ (fun _ _ _ z => nomatch z) h2, k _ _ (fun _ _ _ z => nomatch z) h3, k _ _ (fun _ _ _ z => nomatch z) h4⟩, h5⟩ (Ki.drawn k tl)
theorem Ki.plan (k : Ki H H') (h : PlanAt H p ks rs) : PlanAt H' p ks rs := by
  obtain ⟨t, L, xs, h1, h2, h3, h4⟩ := h
  exact ⟨t, L, xs, k _ _ (fun _ _ _ z => nomatch z) h1, k _ _ (fun _ _ _ z => nomatch z) h2, k _ _ (fun _ _ _ z => nomatch z) h3, k.drawn h4⟩
theorem DrawnAt.oks {r : RuleD} : ∀ {xs : List V} {rs : List RuleD}, DrawnAt H xs rs → r ∈ rs → r.Ok
  | _, _, .cons ⟨p, h1, h2, h3⟩ tl, h => by
    rcases List.mem_cons.mp h with z | z
    · rw [z]
      exact h3
    · exact DrawnAt.oks tl z
end
def sentD (l : L3) : PyData := .tuple [.str l.1, dO l.2.1, .int l.2.2]
theorem dpa_sent {K : PySem.W.Frag} {H : Hp} : ∀ {xs : List V} {ls : List L3}, SentAt H xs ls → DpAll K H xs (ls.map sentD)
  | _, _, .nil => .nil
  | _, _, .cons ⟨t, h1, h2⟩ r => by
    rw [h1]
    exact .cons (.tup (Evl.st_of h2) (.cons (.str _) (.cons (dp_ov _) (.cons (.int _) .nil)))) (dpa_sent r)
theorem plain_kindK : ∀ k ∈ lettersL, PyData.canLay0 (.str k) = true := by decide +kernel
theorem gd_sent {m : PoM} (h : ∀ l ∈ m.sent, l.1 ∈ lettersL) : GD (.tuple (m.sent.map sentD)) 2 := GD.tup (n := 1) fun d hd => by
  obtain ⟨l, hl, rfl⟩ := List.mem_map.mp hd
  refine GD.tup (n := 0) fun e he => ?_
  simp only [List.mem_cons, List.not_mem_nil, or_false] at he
  rcases he with rfl | rfl | rfl
  · exact GD.str (plain_kindK _ (h l hl)) 0
  · exact GD.ov _ 0
  · exact GD.int _ 0
theorem sqL_mono {K : PySem.W.Frag} {H H' : Hp} {sa : Addr} {xs : List V} (h : ∀ o, H sa = some o → H' sa = some o) (s : SqL K H sa xs) : SqL K H' sa xs := by
  rcases s with (s | ⟨o, s⟩) | s
  · exact .inl (.inl (h _ s))
  · exact .inl (.inr ⟨o, h _ s⟩)
  · exact .inr s
section
variable {K : PySem.W.Frag} {CR CP CQ CK : Addr} {H : Hp} {d q : Addr} {m : PoM} {σ : L2.St} {te to ta tb : TE} {D : Ends} {tu tz : TS} {t : TT}
theorem ev_lenQ (pa : PostAt K CR CP CQ H q m) (ho : Ev to σ H (.ref q)) (hl : m.ds.length ≤ 4000) : Ev (tCB (rLenI CQ (spPostLen K CR CP CQ) E0) (tCons to tNil)) σ H (.int (m.ds.length : Int)) := fun H1 e1 Q k => ho H1 e1 _ fun H2 e2 => by
  obtain ⟨dx, fs, h1, _⟩ := (pa.ex (e1.trans e2)).fld
  exact ⟨q, dx, fs, rfl, h1, q, m, rfl, pa.ex (e1.trans e2), fun H3 e3 => ⟨m.ds.length, rfl, by omega, k H3 (e2.trans e3)⟩⟩
theorem el_split {x y : Str} (ha : Ev ta σ H (.str x)) (hb : Ev tb σ H (.str y)) (h0 : (y.length == 0) = false) (hz : x.length + 2 ≤ sizeLine) : EvP (tM1 (fun x xs H Q => ∃ a b, x = .str a ∧ xs = [.str b] ∧ (b.length == 0) = false ∧ a.length + 2 ≤ sizeLine ∧ rNewStrs (Txt.split a b) H Q) ta tb) σ H (fun p H2 => H2 p = some (.lst ((Txt.split x y).map V.str))) := fun H1 e1 Q k =>
  ha H1 e1 _ fun H2 e2 => ⟨⟨_, rfl⟩, hb H2 (e1.trans e2) _ fun H3 e3 => ⟨x, y, rfl, rfl, h0, hz, fun p np => k p _ ((e2.trans e3).trans (Ex.new np)) upd_same⟩⟩
theorem rI0_go {g : Int → Int → V} {i j : Int} {v : V} {Q : VK} (e : g i j = v) (h : Q v H) : rI0 g (.int i) (.int j) H Q := ⟨i, j, rfl, rfl, by
  rw [e]
  exact h⟩
theorem c_goK {v : V} {Q : VK} (h : Q v H) : tC v σ H Q := h
theorem when_goK (h : t σ H fun c H1 => if c = true then tu { D with nx := tz D } σ H1 else tz D σ H1) : tSeq (tIfS t tu tNext) tz D σ H := h
theorem test_goK {Q : Bool → Hp → Prop} (h : te σ H fun x H1 => ∃ k, x = .bl k ∧ Q k H1) : tTest te σ H Q := h
end
end Ov


namespace Ov
open PySem PySem.Spec PyProof.Rows L2
open Evl (pss_cut tCut Ex Ev EvT EvL EvA EvU)
open TL (tl pre spl joinL spl_hit spl_miss spl_nil tl_append map_tl_inj spl_part1)
/-! ### commands as data: what a desk answers (pure) -/
inductive Co
  | plan (ks : List Str) (rs : List RuleD)
  | post (n : Nat)
  | send (k : Str) (dy : Option Nat)
  | come (g : Str) (i : Nat)
  | shows (g : Str) (j : Nat)
def dayT : Option Nat → Str
  | none => ""
  | some j => (" " : Str) ++ strI j
def Co.text : Co → Str
  | .plan ks rs => ("plan " : Str) ++ planWords ks rs
  | .post n => ("post " : Str) ++ strI n
  | .send k none => ("send " : Str) ++ k
  | .send k (some j) => ((("send " : Str) ++ k) ++ " ") ++ strI j
  | .come g i => ((("come " : Str) ++ g) ++ " ") ++ strI i
  | .shows g j => ((("shows " : Str) ++ g) ++ " ") ++ strI j
def viewAt (m : PoM) (g : Str) (d : Nat) : Option Nat := ((CM.start m.ks m.rs).goAll (m.weave g d)).bind CM.view
def dayOf (m : PoM) (i : Nat) : Option Nat := ((m.sent[i]?).map fun l => l.2.1).getD none
def Co.step (m : PoM) : Co → PoM × Str
  | .plan ks rs => (⟨ks, rs, 1, []⟩, strI rs.length)
  | .post n => (⟨m.ks, m.rs, n, []⟩, "done")
  | .send k dy => (m.do ⟨none, dy, k⟩, toString ((m.do ⟨none, dy, k⟩).sent.length - 1 : Int))
  | .come g i => (m.do ⟨some g, dayOf m i, evCome i⟩, "done")
  | .shows g j => (m, seenT (viewAt m g j))
def Co.Ok (m : PoM) : Co → Prop
  | .plan ks rs => PlanOk ks rs ∧ ∀ r ∈ rs, r.Ok
  | .post n => 0 < n ∧ n ≤ 4
  | .send k dy => k ∈ lettersL ∧ (if wholeKind k = true then dy = none else ∃ j, dy = some j ∧ j < m.days)
  | .come g i => g ∈ namesL ∧ i < m.sent.length
  | .shows g j => g ∈ namesL ∧ j < m.days
section
variable {m : PoM} {c : Co}
theorem Co.Ok.pv (vp : Pv m) (hl : m.ds.length ≤ 44) (ok : c.Ok m) : Pv (c.step m).1 := by
  have I := vp.now
  cases c with
  | plan ks rs => exact Pv.start ok.1.g (by have := ok.1.hz; omega) ⟨by decide, by decide⟩
  | post n => exact Pv.start I.gd I.hz ok
  | send k dy => exact vp.add (I.send ok.1 ok.2)
  | come g i =>
    have sl := sent_len_le m
    obtain ⟨l, hl2⟩ : ∃ l, m.sent[i]? = some l := ⟨_, List.getElem?_eq_getElem ok.2⟩
    have e : dayOf m i = l.2.1 := by
      unfold dayOf
      rw [hl2]
      rfl
    show Pv (m.do ⟨some g, dayOf m i, evCome i⟩)
    rw [e]
    exact vp.add (I.come (names_ok g ok.1).2.1 hl2 (by omega))
  | shows g j => exact vp
theorem Co.step_len (m : PoM) (c : Co) : (c.step m).1.ds.length ≤ m.ds.length + 1 := by
  cases c with
  | plan ks rs => exact Nat.zero_le _
  | post n => exact Nat.zero_le _
  | send k dy => exact Nat.le_of_eq (len_do m _)
  | come g i => exact Nat.le_of_eq (len_do m _)
  | shows g j => exact Nat.le_succ _
theorem view_at {g : Str} {d : Nat} {mm : CM} (L : Link m g d mm) : viewAt m g d = mm.view := by
  unfold viewAt
  rw [L.go]
  rfl
end
section
variable {K : PySem.W.Frag} {CR CP CQ CK : Addr} {H H' : Hp} {d q d2 q2 a b : Addr} {m m2 : PoM} {σ : L2.St} {te to : TE} {Q : VK} {c : Co}
theorem say_goE {cm : Cmd} {z : Str} {ws : List Str} (da : DeskAt K CR CP CQ CK H d q m) (ho : Ev to σ H (.ref d)) (hz : Ev te σ H (.str z)) (cf : CmdOf z cm.name ws) (k : ∀ W H', Ex H H' → H' W = some (.lst (ws.map V.str)) → cm.act K CR CP CQ CK [.ref d, .ref W] H' Q E0) :
    tMeth CK "say" (spSay K CR CP CQ CK) [] E0 to (tCons te tNil) σ H Q := by
  obtain ⟨dx, p, hd, _⟩ := da
  exact ho H (Ex.refl _) _ fun H0 e0 => ⟨d, dx, _, rfl, e0 _ _ hd, by kernel_rfl, (Evl.ea_cons hz Evl.ea_nil) H0 e0 _ fun H1 e1 => ⟨cm, d, z, ws, rfl, cf, fun W H2 nW e2 hW => k W H2 ((e0.trans e1).trans e2) hW⟩⟩
theorem kp_d {q : Addr} (k : Kq d H H') : Kp d q H H' := fun x o h1 _ hx => k x o h1 h1 hx
theorem kp_q {d : Addr} (k : Kq q H H') : Kp d q H H' := fun x o _ h2 hx => k x o h2 h2 hx
theorem say_step (da : DeskAt K CR CP CQ CK H d q m) (vp : Pv m) (ok : c.Ok m) (hl : m.ds.length ≤ 44) (ho : Ev to σ H (.ref d)) (hz : Ev te σ H (.str c.text)) (k : ∀ q' H', (q' = q ∨ H q' = none) → Kp d q H H' → DeskAt K CR CP CQ CK H' d q' (c.step m).1 → Q (.str (c.step m).2) H') :
    tMeth CK "say" (spSay K CR CP CQ CK) [] E0 to (tCons te tNil) σ H Q := by
  have I := vp.now
  have dy := vp.dy
  cases c with
  | plan ks rs =>
    obtain ⟨po, oks⟩ := ok
    have gk := sub_good po.sl
    refine say_goE (cm := .plan) da ho hz (cmd_plan gk.1 gk.2.2 oks po.g po.hz) fun W H1 e1 hW => ⟨d, q, W, m, ks, rs, rfl, da.ext e1, hW, po, by have := words_small gk.1 gk.2.2 oks po.hz; omega, fun q' H2 nq k2 d2 => ?_⟩
    exact k q' H2 (.inr (Evl.fresh_back e1 nq)) ((Kp.same (ex_same e1)).trans (kp_d k2)) d2
  | post n =>
    refine say_goE (cm := .post) da ho hz (cmd_post ok.1 (by have := ok.2; omega)) fun W H1 e1 hW => ⟨d, q, W, m, n, rfl, da.ext e1, hW, by have := ok.2; omega, fun q' H2 nq k2 d2 => ?_⟩
    exact k q' H2 (.inr (Evl.fresh_back e1 nq)) ((Kp.same (ex_same e1)).trans (kp_d k2)) d2
  | send kd dd =>
    obtain ⟨k1, hd⟩ := ok
    cases dd with
    | none =>
      refine say_goE (cm := .send) da ho hz (cmd_send0 k1) fun W H1 e1 hW => ⟨d, q, W, m, kd, none, rfl, da.ext e1, hW, k1, hd, by omega, by omega, fun H2 k2 d2 => ?_⟩
      exact k q H2 (.inl rfl) ((Kp.same (ex_same e1)).trans (kp_q k2)) d2
    | some j =>
      have hj : j < m.days := by
        by_cases cc : wholeKind kd = true
        · rw [if_pos cc] at hd
          cases hd
        · rw [if_neg cc] at hd
          obtain ⟨j', h1, h2⟩ := hd
          cases h1
          exact h2
      refine say_goE (cm := .send) da ho hz (cmd_sendD k1 (by omega)) fun W H1 e1 hW => ⟨d, q, W, m, kd, some j, rfl, da.ext e1, hW, k1, hd, by omega, by omega, fun H2 k2 d2 => ?_⟩
      exact k q H2 (.inl rfl) ((Kp.same (ex_same e1)).trans (kp_q k2)) d2
  | come g i =>
    obtain ⟨hg, hi⟩ := ok
    have sl := sent_len_le m
    obtain ⟨l, hl2⟩ : ∃ l, m.sent[i]? = some l := ⟨_, List.getElem?_eq_getElem hi⟩
    have e : dayOf m i = l.2.1 := by
      unfold dayOf
      rw [hl2]
      rfl
    refine say_goE (cm := .come) da ho hz (cmd_come hg (by omega)) fun W H1 e1 hW => ⟨d, q, W, m, g, i, l, rfl, da.ext e1, hW, (names_ok g hg).1, hl2, by omega, by omega, fun H2 k2 d2 => ?_⟩
    refine k q H2 (.inl rfl) ((Kp.same (ex_same e1)).trans (kp_q k2)) ?_
    show DeskAt K CR CP CQ CK H2 d q (m.do ⟨some g, dayOf m i, evCome i⟩)
    rw [e]
    exact d2
  | shows g j =>
    obtain ⟨hg, hj⟩ := ok
    obtain ⟨mm, Lk⟩ := I.lk g j hj
    have Pl := Lk.plays I (names_ok g hg).1 hj (by omega)
    have vl := view_lt I Lk
    refine say_goE (cm := .shows) da ho hz (cmd_shows hg (by omega)) fun W H1 e1 hW => ⟨d, q, W, m, g, j, mm, rfl, da.ext e1, hW, Pl, by omega, fun i ei => by have := vl i ei; omega, fun H2 e2 => ?_⟩
    have := k q H2 (.inl rfl) (Kp.same (ex_same (e1.trans e2))) (da.ext (e1.trans e2))
    rw [← view_at Lk]
    exact this
/-- another desk stays -/
theorem DeskAt.other (h : DeskAt K CR CP CQ CK H d2 q2 m2) (da : DeskAt K CR CP CQ CK H d q m) (k : Kp d q H H') (n1 : d2 ≠ d) (n2 : q2 ≠ q) : DeskAt K CR CP CQ CK H' d2 q2 m2 := by
  obtain ⟨dx, p, h1, h2, dx', p', dd, xs, h3, h4, h5, h6⟩ := h
  obtain ⟨dy, r, g1, g2, dy', r', ee, ys, g3, g4, g5, g6⟩ := da
  have kn : Kn H H' := fun x o hx np => by
    have a1 : x ≠ d := fun z => by
      subst z
      rw [g1] at hx
      cases hx
      have := np _ _ _ rfl
      rw [k_plan] at this
      cases this
    have a2 : x ≠ q := fun z => by
      subst z
      rw [g3] at hx
      cases hx
      have := np _ _ _ rfl
      rw [q_plan] at this
      cases this
    exact k x o a1 a2 hx
  have b1 : d2 ≠ q := ne_ins h1 g3 (by rw [q_days, k_days]; exact fun z => nomatch z)
  have b2 : q2 ≠ d := ne_ins h3 g1 (by rw [q_days, k_days]; exact fun z => nomatch z)
  exact ⟨dx, p, k _ _ n1 b1 h1, kn.plan h2, dx', p', dd, xs, k _ _ b2 n2 h3, kn.plan h4, kn.t h5, h6.keep kn.tups⟩
end
/-! ### many commands -/
def runC (cs : List Co) : PoM × List Str := cs.foldl (fun s c => ((c.step s.1).1, s.2 ++ [(c.step s.1).2])) (⟨[], [], 1, []⟩, [])
theorem runC_snoc (cs : List Co) (c : Co) : runC (cs ++ [c]) = ((c.step (runC cs).1).1, (runC cs).2 ++ [(c.step (runC cs).1).2]) := by
  unfold runC
  rw [List.foldl_append]
  rfl
structure OkC (cs : List Co) : Prop where
  ok : ∀ (i : Nat) (c : Co), cs[i]? = some c → c.Ok (runC (cs.take i)).1
  le : cs.length ≤ 44
theorem OkC.nil : OkC [] := ⟨fun i c h => (by cases h), Nat.zero_le _⟩
theorem OkC.snoc {cs : List Co} {c : Co} (h : OkC cs) (hl : cs.length < 44) (ok : c.Ok (runC cs).1) : OkC (cs ++ [c]) := by
  refine ⟨fun i x hi => ?_, by rw [List.length_append]; exact hl⟩
  rcases Nat.lt_trichotomy i cs.length with z | z | z
  · rw [List.getElem?_append_left z] at hi
    rw [List.take_append_of_le_length (by omega)]
    exact h.ok i x hi
  · subst z
    rw [List.getElem?_append_right (Nat.le_refl _), Nat.sub_self] at hi
    cases hi
    rw [List.take_append_of_le_length (Nat.le_refl _), List.take_length]
    exact ok
  · rw [List.getElem?_eq_none (by rw [List.length_append]; show cs.length + 1 ≤ i; omega)] at hi
    cases hi
theorem OkC.at_ {cs : List Co} (h : OkC cs) : ∀ i, i ≤ cs.length → Pv (runC (cs.take i)).1 ∧ (runC (cs.take i)).1.ds.length ≤ i ∧ (runC (cs.take i)).2.length = i
  | 0, _ => ⟨Pv.start (fun r hr => (by cases hr)) (Nat.zero_le _) ⟨by decide, by decide⟩, Nat.zero_le _, rfl⟩
  | i + 1, hi => by
    obtain ⟨p, l, e⟩ := h.at_ i (by omega)
    obtain ⟨c, hc⟩ : ∃ c, cs[i]? = some c := ⟨_, List.getElem?_eq_getElem (by omega)⟩
    have tk : cs.take (i + 1) = cs.take i ++ [c] := by rw [List.take_add_one, hc]; rfl
    have ok := h.ok i c hc
    have hl := h.le
    rw [tk, runC_snoc]
    refine ⟨ok.pv p (by omega), Nat.le_trans (Co.step_len _ _) (by omega), ?_⟩
    show ((runC (cs.take i)).2 ++ [_]).length = _
    rw [List.length_append, e]
    rfl
theorem OkC.now {cs : List Co} (h : OkC cs) : Pv (runC cs).1 ∧ (runC cs).1.ds.length ≤ cs.length ∧ (runC cs).2.length = cs.length := by
  have := h.at_ cs.length (Nat.le_refl _)
  rw [List.take_length] at this
  exact this
end Ov


namespace Ov
open PySem PySem.Spec PyProof.Rows L2
open Evl (pss_cut tCut Ex Ev EvT EvL EvA EvU)
open TL (tl pre spl joinL spl_hit spl_miss spl_nil tl_append map_tl_inj spl_part1)
/-! ### a drawn command -/
def NextC (n : Nat) (c : Co) (k : Nat) : Prop := ∀ m : PoM, m.sent.length = n → 0 < m.days → c.Ok m ∧ (c.step m).1.sent.length = k
def spCommand : Sp := fun vs H Q _ => ∃ (a b : Addr) (n : Nat), vs = [.ref a, .int (n : Int)] ∧ Deal H a b ∧ 0 < n ∧ n ≤ 45 ∧ ∀ (t : Addr) (c : Co) (k : Nat) H', NextC n c k → Kp a b H H' → Deal H' a b → H t = none → H' t = some (.tup [.str c.text, .int (k : Int)]) → Q (.ref t) H'
theorem next_plan {n : Nat} {ks : List Str} {rs : List RuleD} (po : PlanOk ks rs) (ok : ∀ r ∈ rs, r.Ok) : NextC n (.plan ks rs) 1 := fun m _ _ => ⟨⟨po, ok⟩, rfl⟩
theorem next_post {n k : Nat} (h : 0 < k ∧ k ≤ 4) : NextC n (.post k) 1 := fun m _ _ => ⟨h, rfl⟩
theorem next_send {n : Nat} {k : Str} {dy : Option Nat} (hk : k ∈ lettersL) (h : (wholeKind k = true ∧ dy = none) ∨ (wholeKind k = false ∧ dy = some 0)) : NextC n (.send k dy) (n + 1) := fun m hm hd => by
  refine ⟨⟨hk, ?_⟩, ?_⟩
  · rcases h with ⟨h1, h2⟩ | ⟨h1, h2⟩
    · rw [if_pos h1]
      exact h2
    · rw [if_neg (by rw [h1]; exact Bool.false_ne_true)]
      exact ⟨0, h2, hd⟩
  · show (m.do ⟨none, dy, k⟩).sent.length = n + 1
    rw [sent_snoc]
    unfold sent1
    rw [if_pos rfl, List.length_append, hm]
    rfl
theorem next_come {n : Nat} {g : Str} {i : Nat} (hg : g ∈ namesL) (hi : i < n) : NextC n (.come g i) n := fun m hm hd => ⟨⟨hg, by omega⟩, by
  show (m.do ⟨some g, dayOf m i, evCome i⟩).sent.length = n
  rw [sent_skip (fun z => by cases z)]
  exact hm⟩
theorem next_shows {n : Nat} {g : Str} (hg : g ∈ namesL) : NextC n (.shows g 0) n := fun m hm hd => ⟨⟨hg, hd⟩, hm⟩
def sendsL : List Str := ["ask", "stop", "day 0", "off 0"]
theorem sends_ok : ∀ x ∈ sendsL, x.length ≤ 10 ∧ ∃ k dy, k ∈ lettersL ∧ ((wholeKind k = true ∧ dy = none) ∨ (wholeKind k = false ∧ dy = some 0)) ∧ (("send " : Str) ++ x) = (Co.send k dy).text := by
  intro x hx
  simp only [sendsL, List.mem_cons, List.not_mem_nil, or_false] at hx
  rcases hx with rfl | rfl | rfl | rfl
  · exact ⟨by decide +kernel, "ask", none, by decide +kernel, .inl (by decide +kernel), rfl⟩
  · exact ⟨by decide +kernel, "stop", none, by decide +kernel, .inl (by decide +kernel), rfl⟩
  · exact ⟨by decide +kernel, "day", some 0, by decide +kernel, .inr (by decide +kernel), by show _ = ((("send " : Str) ++ "day") ++ " ") ++ strI 0; decide +kernel⟩
  · exact ⟨by decide +kernel, "off", some 0, by decide +kernel, .inr (by decide +kernel), by show _ = ((("send " : Str) ++ "off") ++ " ") ++ strI 0; decide +kernel⟩
theorem three_ok : ∀ g ∈ (["ann", "bob", "x"] : List Str), g ∈ namesL ∧ g.length ≤ 10 := by decide +kernel
theorem shows_end (g : Str) : (("shows " : Str) ++ g) ++ " 0" = (Co.shows g 0).text := by
  show _ = ((("shows " : Str) ++ g) ++ " ") ++ strI 0
  rw [show (" 0" : Str) = (" " : Str) ++ strI 0 by decide +kernel, ← Str.append_assoc]
theorem m1_goK {r : V → List V → Hp → VK → Prop} {to te : TE} {σ : L2.St} {H : Hp} {Q : VK} (h : to σ H fun x H1 => (∃ s, x = .str s) ∧ te σ H1 fun y H2 => r x [y] H2 Q) : tM1 r to te σ H Q := h
section
variable {P : Program} {w : World} {K : PySem.W.Frag} {mg : Str → Option Value} {base : Heap}
theorem scCommand : FnScope ["_law_deal_here", "_law_sent", "_law_form", "_law_name"] ["_law_deal_here", "_law_sent"] (defScope sCommand) := ⟨rfl, rfl, rfl, by decide +kernel, rfl, by decide +kernel, by decide +kernel⟩
theorem ok_command {f fDraw fPi fPn fTx : Addr} {fd fdDraw fdPi fdPn fdTx : FuncData} (F : Fun K "_law_command" "_law_command" sCommand f fd) (T : TxB mg) (n_str : mg "str" = none)
    (D_draw : Df K mg "_law_draw" sDraw ["_law_deal_here", "_law_many"] fDraw fdDraw) (D_pick : Df K mg "_law_pick" sPick ["_law_deal_here", "_law_some"] fPi fdPi)
    (D_plan : Df K mg "_law_plan" sPlan ["_law_deal_here", "_law_most"] fPn fdPn) (G_plan : FnOk P w K mg base CX0 4 fPn fdPn ["_law_deal_here", "_law_most"] spPlanL)
    (D_text : Df K mg "_law_text" sText ["_law_drawn"] fTx fdTx) (G_text : FnOk P w K mg base CX0 2 fTx fdTx ["_law_drawn"] (spText K)) :
    FnOk P w K mg base CX0 5 f fd ["_law_deal_here", "_law_sent"] spCommand := by
  have G_draw : FnOk P w K mg base CX0 1 fDraw fdDraw ["_law_deal_here", "_law_many"] spDraw := ok_draw D_draw.F T.n_int
  have G_pick : FnOk P w K mg base CX0 2 fPi fdPi ["_law_deal_here", "_law_some"] (spPick K) := ok_pick D_pick.F T D_draw
  refine F.ok scCommand (fun vs H Q E h => ?_) (fun cdv A outer s H vs Q E hr h => ?_)
  · obtain ⟨a, b, n, rfl, _⟩ := h
    rfl
  · obtain ⟨a, b, n, rfl, D, n0, n45, kq⟩ := h
    refine ⟨_, pss_cons (ps_par (i := 2) (j := 3) (by rfl) scCommand.nd rfl rfl (by decide) rfl rfl (pa_cons (pe_call (E := E0) G_draw (hr.mono (by decide)) rfl D_draw.g D_draw.F.kp D_draw.b .nil pass0 (pa_cons (pv 0) (pa_cons pe_int pa_nil))) (pa_cons (pe_call (E := E0) G_pick (hr.mono (by decide)) rfl D_pick.g D_pick.F.kp D_pick.b .nil pass0 (pa_cons (pv 0) (pa_cons (pe_lst (pa_cons pe_str (pa_cons pe_str (pa_cons pe_str pa_nil)))) pa_nil))) pa_nil)) (by rfl))
      (pss_cons (ps_if (pt_cmpR op_eq (pv 2) pe_int (nomark _)) (pss_one (ps_ret (pe_tup (pa_cons (pe_op op_add_str pe_str (pe_join pe_str (pe_split (pe_call (E := E0) G_text (hr.mono (by decide)) rfl D_text.g D_text.F.kp D_text.b .nil pass0 (pa_cons (pe_call (E := E0) G_plan (hr.mono (by decide)) rfl D_plan.g D_plan.F.kp D_plan.b .nil pass0 (pa_cons (pv 0) (pa_cons pe_int pa_nil))) pa_nil)) pe_str))) (pa_cons pe_int pa_nil))))) pss_nil)
      (pss_cons (ps_if (pt_cmpR op_eq (pv 2) pe_int (nomark _)) (pss_one (ps_ret (pe_tup (pa_cons (pe_op op_add_str pe_str (pe_callTy call_str_int (by rfl) n_str (by decide +kernel) (pa_cons (pe_op op_add pe_int (pe_call (E := E0) G_draw (hr.mono (by decide)) rfl D_draw.g D_draw.F.kp D_draw.b .nil pass0 (pa_cons (pv 0) (pa_cons pe_int pa_nil)))) pa_nil))) (pa_cons pe_int pa_nil))))) pss_nil)
      (pss_cons (ps_if (pt_cmpR op_lt (pv 2) pe_int (nomark _)) (pss_one (ps_ret (pe_tup (pa_cons (pe_op op_add_str pe_str (pe_call (E := E0) G_pick (hr.mono (by decide)) rfl D_pick.g D_pick.F.kp D_pick.b .nil pass0 (pa_cons (pv 0) (pa_cons (pe_lst (pa_cons pe_str (pa_cons pe_str (pa_cons pe_str (pa_cons pe_str pa_nil))))) pa_nil)))) (pa_cons (pe_op op_add (pv 1) pe_int) pa_nil))))) pss_nil)
      (pss_cons (ps_if (pt_cmpR op_lt (pv 2) pe_int (nomark _)) (pss_one (ps_ret (pe_tup (pa_cons (pe_op op_add_str (pe_op op_add_str (pe_op op_add_str pe_str (pv 3)) pe_str) (pe_callTy call_str_int (by rfl) n_str (by decide +kernel) (pa_cons (pe_call (E := E0) G_draw (hr.mono (by decide)) rfl D_draw.g D_draw.F.kp D_draw.b .nil pass0 (pa_cons (pv 0) (pa_cons (pv 1) pa_nil))) pa_nil))) (pa_cons (pv 1) pa_nil))))) pss_nil)
      (pss_one (ps_ret (pe_tup (pa_cons (pe_op op_add_str (pe_op op_add_str pe_str (pv 3)) pe_str) (pa_cons (pv 1) pa_nil))))))))), ?_⟩
    have fin : ∀ (c : Co) (k : Nat) H1, NextC n c k → Kp a b H H1 → Deal H1 a b → ∀ p, H1 p = none → Q (.ref p) (upd H1 p (.tup [.str c.text, .int (k : Int)])) := fun c k H1 nx k1 D1 p np => kq p c k _ nx (k1.trans (Kp.new np)) (D1.new np) (k1.none D1 np) upd_same
    refine par_goK (cons_goK (call_goK ?_))
    refine ⟨_, rfl, a, b, 12, rfl, D, by decide, by decide, fun fo H1 f0 f6 k1 D1 => ?_⟩
    refine cons_goK (call_goK ?_)
    refine ⟨_, rfl, size_of (by show 3 ≤ 100000; decide), fun L nL => ?_⟩
    refine ⟨a, b, L, (["ann", "bob", "x"] : List Str).map V.str, rfl, D1.new nL, D1.nea nL, D1.neb nL, .inl (Evl.sq_of upd_same), by decide, by decide, fun x H2 hx k2 D2 => ?_⟩
    have k02 : Kp a b H H2 := (k1.trans (Kp.new nL)).trans k2
    obtain ⟨g, hg, rfl⟩ := List.mem_map.mp hx
    obtain ⟨gn, gl⟩ := three_ok g hg
    refine ⟨_, _, rfl, ?_⟩
    have l1 : (" " : Str).length = 1 := by decide +kernel
    refine Evl.q_when (b := decide (V.int fo = V.int 0)) (Evl.et_test (Evl.ev_op (Evl.ev_var rfl) Evl.ev_c (Evl.rv_eq rfl))) (fun _ H3 e3 => ?_) (fun _ H3 e3 => ?_)
    · -- a plan
      have D3 := D2.keep (ex_same e3)
      have k03 := k02.trans (Kp.same (ex_same e3))
      refine ret_goK (at_tup3 (at_cons3 (op_goK (c_goK (m1_goK (c_goK ⟨⟨_, rfl⟩, m1_goK (call_goK (cons_goK (call_goK ?_)))⟩))))))
      refine ⟨_, rfl, a, b, 5, rfl, by decide, D3, fun pn ks rs H4 sl hz k4 D4 pt => ?_⟩
      have oks : ∀ r ∈ rs, r.Ok := by
        obtain ⟨_, _, _, _, _, _, h4, _⟩ := id pt
        exact fun r hr => h4.oks hr
      have gr : ∀ r ∈ rs, r.Good := by
        obtain ⟨_, _, _, _, _, _, h4, _⟩ := id pt
        exact fun r hr => h4.good hr
      have gk := sub_good sl
      have po : PlanOk ks rs := ⟨sl, gr, by omega⟩
      have wsm := words_small gk.1 gk.2.2 oks (by omega)
      have lr := lines_read gk.2.2 gr
      have lpt := plan_len gk.1 gk.2.2 gr (by omega : rs.length ≤ 10)
      have l5 : ("plan " : Str).length = 5 := by decide +kernel
      have l3 : (" ; " : Str).length = 3 := by decide +kernel
      have sj := sum_join " ; " (linesOf ks rs)
      have sl2 : (linesOf ks rs).length = rs.length + 1 := by
        unfold linesOf
        rw [List.length_cons, List.length_map]
      refine ⟨pn, ks, rs, rfl, pt.at_, gk.1, gk.2.2, by omega, fun H5 e5 => ⟨⟨_, rfl⟩, c_goK ⟨planText ks rs, "\n", rfl, rfl, by decide +kernel, Nat.le_trans (show (planText ks rs).length + 2 ≤ 700002 by omega) (by decide), fun p np => ?_⟩⟩⟩
      rw [lr]
      refine ⟨" ; ", p, linesOf ks rs, rfl, rfl, .inl (Evl.sq_of upd_same), by rw [l3, sl2]; unfold planWords at wsm; omega, ?_⟩
      rw [TL.join_eq]
      refine ⟨_, _, rfl, rfl, Nat.le_trans (show ("plan " : Str).length + (planWords ks rs).length ≤ 100000 by rw [l5]; omega) (by decide), ?_⟩
      refine at_cons3 (c_goK ?_)
      refine ⟨size_of (by show 2 ≤ 100000; decide), ?_⟩
      exact fin (.plan ks rs) 1 _ (next_plan po oks) (((k03.trans k4).trans (Kp.same (ex_same e5))).trans (Kp.new np)) ((D4.keep (ex_same e5)).new np)
    refine Evl.q_when (b := decide (V.int fo = V.int 1)) (Evl.et_test (Evl.ev_op (Evl.ev_var rfl) Evl.ev_c (Evl.rv_eq rfl))) (fun _ H4 e4 => ?_) (fun _ H4 e4 => ?_)
    · -- a post
      have e34 := e3.trans e4
      refine ret_goK (at_tup3 (at_cons3 (op_goK (c_goK (cb_goK (op_goK (c_goK (call_goK ?_))))))))
      refine ⟨_, rfl, a, b, 4, rfl, D2.keep (ex_same e34), by decide, by decide, fun s0 H5 s1 s2 k5 D5 => ?_⟩
      obtain ⟨j, rfl⟩ := Int.eq_ofNat_of_zero_le s1
      have en : (1 : Int) + (j : Int) = ((j + 1 : Nat) : Int) := by omega
      obtain ⟨n1, n2, n3, n4, n5⟩ := num_read (j + 1) (by omega)
      refine rI0_go (v := V.int ((j + 1 : Nat) : Int)) (congrArg V.int en) ?_
      refine ⟨_, rfl, Nat.lt_of_lt_of_le (log_small (k := 20) (Nat.lt_of_le_of_lt (show (((j + 1 : Nat) : Int)).natAbs ≤ 100 by omega) (by decide)) (by decide)) (by decide), ?_⟩
      refine ⟨_, _, rfl, rfl, Nat.le_trans (show ("post " : Str).length + (strI (j + 1)).length ≤ 100000 by rw [show ("post " : Str).length = 5 by decide +kernel]; omega) (by decide), ?_⟩
      refine at_cons3 (c_goK ?_)
      refine ⟨size_of (by show 2 ≤ 100000; decide), ?_⟩
      exact fin (.post (j + 1)) 1 _ (next_post (by omega)) ((k02.trans (Kp.same (ex_same e34))).trans k5) D5
    refine Evl.q_when (b := decide (fo < 5)) (Evl.et_test (Evl.ev_op (Evl.ev_var rfl) Evl.ev_c Evl.rv_I0)) (fun _ H5 e5 => ?_) (fun _ H5 e5 => ?_)
    · -- send
      have e35 := (e3.trans e4).trans e5
      refine ret_goK (at_tup3 (at_cons3 (op_goK (c_goK (call_goK ?_)))))
      have D5 := D2.keep (ex_same e35)
      refine ⟨_, rfl, size_of (by show 4 ≤ 100000; decide), fun L2 nL2 => ?_⟩
      refine ⟨a, b, L2, sendsL.map V.str, rfl, D5.new nL2, D5.nea nL2, D5.neb nL2, .inl (Evl.sq_of upd_same), by decide, by decide, fun x H6 hx k6 D6 => ?_⟩
      obtain ⟨z, hz, rfl⟩ := List.mem_map.mp hx
      obtain ⟨zl, k, dy, hk, hdy, et⟩ := sends_ok z hz
      refine ⟨_, _, rfl, rfl, Nat.le_trans (show ("send " : Str).length + z.length ≤ 100000 by rw [show ("send " : Str).length = 5 by decide +kernel]; omega) (by decide), ?_⟩
      rw [et]
      refine at_cons3 (op_goK ?_)
      refine ⟨_, rfl, c_goK (rI0_go (v := V.int ((n + 1 : Nat) : Int)) (congrArg V.int (by omega)) ?_)⟩
      refine ⟨size_of (by show 2 ≤ 100000; decide), ?_⟩
      exact fin (.send k dy) (n + 1) _ (next_send hk hdy) (((k02.trans (Kp.same (ex_same e35))).trans (Kp.new nL2)).trans k6) D6
    refine Evl.q_when (b := decide (fo < 10)) (Evl.et_test (Evl.ev_op (Evl.ev_var rfl) Evl.ev_c Evl.rv_I0)) (fun _ H6 e6 => ?_) (fun _ H6 e6 => ?_)
    · -- come
      have e36 := ((e3.trans e4).trans e5).trans e6
      have l5 : ("come " : Str).length = 5 := by decide +kernel
      refine ret_goK (at_tup3 (at_cons3 (op_goK ?_)))
      refine (ev_catS (x := ("come " : Str) ++ g) (y := " ") (ev_catS (x := "come ") (y := g) Evl.ev_c (Evl.ev_var rfl) (by rw [l5]; omega)) Evl.ev_c (by rw [Str.length_append, l5, l1]; omega)) H6 (Ex.refl _) _ fun H7 e7 => ?_
      have e37 := e36.trans e7
      refine cb_goK (call_goK ?_)
      refine ⟨_, rfl, _, rfl, a, b, (n : Int), rfl, D2.keep (ex_same e37), by omega, by omega, fun s0 H8 s1 s2 k8 D8 => ?_⟩
      obtain ⟨j, rfl⟩ := Int.eq_ofNat_of_zero_le s1
      obtain ⟨n1, n2, n3, n4, n5⟩ := num_read j (by omega)
      refine ⟨_, rfl, Nat.lt_of_lt_of_le (log_small (k := 20) (Nat.lt_of_le_of_lt (show ((j : Int)).natAbs ≤ 100 by omega) (by decide)) (by decide)) (by decide), ?_⟩
      refine ⟨_, _, rfl, rfl, Nat.le_trans (show ((("come " : Str) ++ g) ++ " ").length + (strI j).length ≤ 100000 by rw [Str.length_append, Str.length_append, l5, l1]; omega) (by decide), ?_⟩
      refine at_cons3 ?_
      refine ⟨_, rfl, ?_⟩
      refine ⟨size_of (by show 2 ≤ 100000; decide), ?_⟩
      exact fin (.come g j) n _ (next_come gn (by omega)) ((k02.trans (Kp.same (ex_same e37))).trans k8) D8
    -- shows
    have e36 := ((e3.trans e4).trans e5).trans e6
    have l6 : ("shows " : Str).length = 6 := by decide +kernel
    refine ret_goK (at_tup3 (at_cons3 ?_))
    refine (ev_catS (x := ("shows " : Str) ++ g) (y := " 0") (ev_catS (x := "shows ") (y := g) Evl.ev_c (Evl.ev_var rfl) (by rw [l6]; omega)) Evl.ev_c (by rw [Str.length_append, l6, show (" 0" : Str).length = 2 by decide +kernel]; omega)) H6 (Ex.refl _) _ fun H7 e7 => ?_
    rw [shows_end]
    have e37 := e36.trans e7
    refine at_cons3 ?_
    refine ⟨_, rfl, ?_⟩
    refine ⟨size_of (by show 2 ≤ 100000; decide), ?_⟩
    exact fin (.shows g 0) n _ (next_shows gn) (k02.trans (Kp.same (ex_same e37))) (D2.keep (ex_same e37))
end
end Ov


namespace Ov
open PySem PySem.Spec PyProof.Rows L2
open Evl (pss_cut tCut Ex Ev EvT EvL EvA EvU)
open TL (tl pre spl joinL spl_hit spl_miss spl_nil tl_append map_tl_inj spl_part1)
/-! ### answers are plain texts -/
theorem plain_num : ∀ n < 100, PyData.canLay0 (.str (strI n)) = true := by decide +kernel
theorem Co.Ok.plain {m : PoM} {c : Co} (vp : Pv m) (hl : m.ds.length ≤ 44) (ok : c.Ok m) : PyData.canLay0 (.str (c.step m).2) = true := by
  have I := vp.now
  have dy := vp.dy
  cases c with
  | plan ks rs => exact plain_num _ (by have := ok.1.hz; omega)
  | post n => exact (by decide +kernel : PyData.canLay0 (.str "done") = true)
  | send k dy =>
    have a1 := sent_len_le (m.do ⟨none, dy, k⟩)
    have a3 : 0 < (m.do ⟨none, dy, k⟩).sent.length := List.length_pos_iff.mpr (sent_ne _)
    rw [len_do] at a1
    have e : ((m.do ⟨none, dy, k⟩).sent.length - 1 : Int) = (((m.do ⟨none, dy, k⟩).sent.length - 1 : Nat) : Int) := by omega
    show PyData.canLay0 (.str (toString ((m.do ⟨none, dy, k⟩).sent.length - 1 : Int))) = true
    rw [e]
    exact plain_num _ (by omega)
  | come g i => exact (by decide +kernel : PyData.canLay0 (.str "done") = true)
  | shows g j =>
    obtain ⟨hg, hj⟩ := ok
    obtain ⟨mm, Lk⟩ := I.lk g j hj
    have vl := view_lt I Lk
    show PyData.canLay0 (.str (seenT (viewAt m g j))) = true
    rw [view_at Lk]
    cases e : mm.view with
    | none => exact (by decide +kernel : PyData.canLay0 (.str "nothing") = true)
    | some i => exact plain_num _ (by have := vl i e; omega)
theorem OkC.plain {cs : List Co} (h : OkC cs) : ∀ i, i ≤ cs.length → Plain (runC (cs.take i)).2
  | 0, _ => fun x hx => (by cases hx)
  | i + 1, hi => by
    have ih := h.plain i (by omega)
    obtain ⟨p, l, e⟩ := h.at_ i (by omega)
    obtain ⟨c, hc⟩ : ∃ c, cs[i]? = some c := ⟨_, List.getElem?_eq_getElem (by omega)⟩
    have tk : cs.take (i + 1) = cs.take i ++ [c] := by rw [List.take_add_one, hc]; rfl
    have hl := h.le
    rw [tk, runC_snoc]
    intro x hx
    rcases List.mem_append.mp hx with z | z
    · exact ih x z
    · rw [List.mem_singleton.mp z]
      exact (h.ok i c hc).plain p (by omega)
/-! ### two desks, what was said to them and what they told -/
theorem two_at {α : Type} (f : Nat → α) {i : Nat} (h : i < 2) : ([f 0, f 1] : List α)[i]? = some (f i) := by
  match i, h with
  | 0, _ => rfl
  | 1, _ => rfl
theorem two_set {α : Type} (f : Nat → α) (x : α) {i : Nat} (h : i < 2) : ([f 0, f 1] : List α).set i x = [(if 0 = i then x else f 0), (if 1 = i then x else f 1)] := by
  match i, h with
  | 0, _ => rfl
  | 1, _ => rfl
theorem two_ix {i : Nat} (h : i < 2) : ixN 2 (i : Int) = some i := by
  match i, h with
  | 0, _ => rfl
  | 1, _ => rfl
structure Wt (K : PySem.W.Frag) (CR CP CQ CK : Addr) (B : Hp) (a b Ds Sn He To : Addr) (d h t q : Nat → Addr) (cs : Nat → List Co) (H : Hp) : Prop where
  D : Deal H a b
  ex : Ex B H
  nB : B a = none ∧ B b = none ∧ B Sn = none ∧ ∀ i, i < 2 → B (d i) = none ∧ B (q i) = none ∧ B (h i) = none ∧ B (t i) = none
  hD : H Ds = some (.lst [.ref (d 0), .ref (d 1)])
  hS : H Sn = some (.lst [.int ((runC (cs 0)).1.sent.length : Int), .int ((runC (cs 1)).1.sent.length : Int)])
  hH : H He = some (.lst [.ref (h 0), .ref (h 1)])
  hT : H To = some (.lst [.ref (t 0), .ref (t 1)])
  hh : ∀ i, i < 2 → H (h i) = some (.lst ((cs i).map fun c => V.str c.text))
  ht : ∀ i, i < 2 → H (t i) = some (.lst ((runC (cs i)).2.map V.str))
  de : ∀ i, i < 2 → DeskAt K CR CP CQ CK H (d i) (q i) (runC (cs i)).1
  ok : ∀ i, i < 2 → OkC (cs i)
  nd : d 0 ≠ d 1
  nq : q 0 ≠ q 1
  nl : [To, t 1, t 0, He, h 1, h 0, Sn, Ds, b, a].Nodup
theorem two_ne {f : Nat → Addr} (h : f 0 ≠ f 1) {i j : Nat} (hi : i < 2) (hj : j < 2) (n : j ≠ i) : f j ≠ f i := by
  match i, j, hi, hj with
  | 0, 0, _, _ => exact absurd rfl n
  | 1, 1, _, _ => exact absurd rfl n
  | 0, 1, _, _ => exact h.symm
  | 1, 0, _, _ => exact h
section
variable {K : PySem.W.Frag} {CR CP CQ CK : Addr} {B H H' : Hp} {a b Ds Sn He To : Addr} {d h t q : Nat → Addr} {cs : Nat → List Co} {σ : L2.St} {Q : VK} {i : Nat}
theorem Wt.kl (W : Wt K CR CP CQ CK B a b Ds Sn He To d h t q cs H) (D' : Deal H' a b) (k : Kp a b H H') : Wt K CR CP CQ CK B a b Ds Sn He To d h t q cs H' := by
  have kl := Kl.kp k W.D
  have nl := W.nl
  simp only [List.nodup_cons, List.mem_cons, List.not_mem_nil, or_false, not_or, not_false_eq_true, true_and, and_true, List.nodup_nil] at nl
  obtain ⟨⟨_, _, _, _, _, _, _, To1, To2⟩, ⟨_, _, _, _, _, _, t11, t12⟩, ⟨_, _, _, _, _, t01, t02⟩, ⟨_, _, _, _, He1, He2⟩, ⟨_, _, _, h11, h12⟩, ⟨_, _, h01, h02⟩, ⟨_, Sn1, Sn2⟩, ⟨Ds1, Ds2⟩, _⟩ := nl
  refine ⟨D', fun x o hx => k x o (ne_of_none hx W.nB.1) (ne_of_none hx W.nB.2.1) (W.ex x o hx), W.nB, k _ _ Ds2 Ds1 W.hD, k _ _ Sn2 Sn1 W.hS, k _ _ He2 He1 W.hH, k _ _ To2 To1 W.hT, fun i hi => ?_, fun i hi => ?_, fun i hi => kl.desk (W.de i hi), W.ok, W.nd, W.nq, W.nl⟩
  · match i, hi with
    | 0, hi => exact k _ _ h02 h01 (W.hh 0 hi)
    | 1, hi => exact k _ _ h12 h11 (W.hh 1 hi)
  · match i, hi with
    | 0, hi => exact k _ _ t02 t01 (W.ht 0 hi)
    | 1, hi => exact k _ _ t12 t11 (W.ht 1 hi)
theorem Wt.ext (W : Wt K CR CP CQ CK B a b Ds Sn He To d h t q cs H) (e : Ex H H') : Wt K CR CP CQ CK B a b Ds Sn He To d h t q cs H' := W.kl (W.D.keep (ex_same e)) (Kp.same (ex_same e))
theorem Wt.now (W : Wt K CR CP CQ CK B a b Ds Sn He To d h t q cs H) {i : Nat} (hi : i < 2) : Pv (runC (cs i)).1 ∧ (runC (cs i)).1.ds.length ≤ (cs i).length ∧ (runC (cs i)).2.length = (cs i).length := (W.ok i hi).now
/-- a new desk -/
theorem mk_desk (k : ∀ d q H', Ex H H' → H d = none → H q = none → DeskAt K CR CP CQ CK H' d q ⟨[], [], 1, []⟩ → Q (.ref d) H') : tMake CK (spDeskInit K CR CP CQ CK) [] E0 tNil σ H Q := by
  refine fun d dx nd ndx ne => ?_
  have ed : Ex H (upd (upd H dx (.own d)) d (.ins CK dx [])) := (Ex.new ndx).trans (Ex.new (by rw [upd_ne ne.symm]; exact nd))
  exact ⟨d, dx, rfl, upd_same, fun q H' nq kd dk => ⟨rfl, k d q H' (fun x o hx => kd x o (ne_of_none hx nd) (ne_of_none hx nd) (ed _ _ hx)) nd (Evl.fresh_back ed nq) dk⟩⟩
theorem lst_goK {ta : TA} (k : ta σ H fun vs H1 => vs.length ≤ sizeLine ∧ ∀ p, H1 p = none → Q (.ref p) (upd H1 p (.lst vs))) : tLst ta σ H Q := k
theorem par3_goK {i j l : Nat} {ta : TA} {tz : TS} {D : Ends} (k : ta σ H fun vs H1 => ∃ u v w, vs = [u, v, w] ∧ tz D (((σ.set i (some u)).set j (some v)).set l (some w)) H1) : tSeq (tPar3 i j l ta) tz D σ H := k
theorem asgG_goK {te : TE} {g : TG} {tz : TS} {D : Ends} (k : te σ H fun v H1 => g v σ H1 (tz D)) : tSeq (tAsg te g) tz D σ H := k
theorem drop_goL {te : TE} {D : Ends} (k : te σ H fun _ H1 => D.nx σ H1) : tDrop te D σ H := k
theorem bm_goK {T : String} {r : V → List V → Hp → VK → Prop} {to : TE} {ta : TA} (k : to σ H fun x H1 => tyV K T x H1 ∧ ta σ H1 fun xs H2 => r x xs H2 Q) : tBM K T r to ta σ H Q := k
/-- one of two -/
theorem ev_two {p : Addr} {f : Nat → V} {x y : Nat} (hx : σ[x]? = some (some (.ref p))) (hy : σ[y]? = some (some (.int (i : Int)))) (hi : i < 2) (hp : H p = some (.lst [f 0, f 1])) : Ev (tOp (rIxL K) (tVar x) (tVar y)) σ H (f i) :=
  Evl.ev_op (Evl.ev_var hx) (Evl.ev_var hy) (Evl.rv_ixL (Evl.sq_of hp) (atI_nat (two_at f hi)))
/-- a command is said to one of them, all of it noted -/
theorem Wt.next (W : Wt K CR CP CQ CK B a b Ds Sn He To d h t q cs H) {c : Co} {q' : Addr} {H3 H4 H5 : Hp} (hi : i < 2) (ok : c.Ok (runC (cs i)).1) (hl : (cs i).length < 44)
    (x3 : H3 = upd H Sn (.lst [.int (((if 0 = i then (c.step (runC (cs i)).1).1 else (runC (cs 0)).1)).sent.length : Int), .int (((if 1 = i then (c.step (runC (cs i)).1).1 else (runC (cs 1)).1)).sent.length : Int)]))
    (x4 : H4 = upd H3 (h i) (.lst (((cs i).map fun c => V.str c.text) ++ [.str c.text])))
    (k5 : Kp (d i) (q i) H4 H5) (hq : q' = q i ∨ H4 q' = none) (d5 : DeskAt K CR CP CQ CK H5 (d i) q' (c.step (runC (cs i)).1).1) :
    H5 (t i) = some (.lst ((runC (cs i)).2.map V.str)) ∧ Wt K CR CP CQ CK B a b Ds Sn He To d h t (fun j => if j = i then q' else q j) (fun j => if j = i then cs i ++ [c] else cs j) (upd H5 (t i) (.lst ((runC (cs i)).2.map V.str ++ [.str (c.step (runC (cs i)).1).2]))) := by
  have nl := W.nl
  simp only [List.nodup_cons, List.mem_cons, List.not_mem_nil, or_false, not_or, not_false_eq_true, true_and, and_true, List.nodup_nil] at nl
  obtain ⟨⟨To_t1, To_t0, To_He, To_h1, To_h0, To_Sn, To_Ds, To_b, To_a⟩, ⟨t1_t0, t1_He, t1_h1, t1_h0, t1_Sn, t1_Ds, t1_b, t1_a⟩, ⟨t0_He, t0_h1, t0_h0, t0_Sn, t0_Ds, t0_b, t0_a⟩, ⟨He_h1, He_h0, He_Sn, He_Ds, He_b, He_a⟩, ⟨h1_h0, h1_Sn, h1_Ds, h1_b, h1_a⟩, ⟨h0_Sn, h0_Ds, h0_b, h0_a⟩, ⟨Sn_Ds, Sn_b, Sn_a⟩, ⟨Ds_b, Ds_a⟩, b_a⟩ := nl
  have hne : ∀ j, j < 2 → h j ≠ Sn ∧ h j ≠ Ds ∧ h j ≠ b ∧ h j ≠ a ∧ h j ≠ He ∧ h j ≠ To := fun j hj => by
    match j, hj with
    | 0, _ => exact ⟨h0_Sn, h0_Ds, h0_b, h0_a, fun z => He_h0 z.symm, fun z => To_h0 z.symm⟩
    | 1, _ => exact ⟨h1_Sn, h1_Ds, h1_b, h1_a, fun z => He_h1 z.symm, fun z => To_h1 z.symm⟩
  have tne : ∀ j, j < 2 → t j ≠ Sn ∧ t j ≠ Ds ∧ t j ≠ b ∧ t j ≠ a ∧ t j ≠ He ∧ t j ≠ To ∧ ∀ k, k < 2 → t j ≠ h k := fun j hj => by
    match j, hj with
    | 0, _ => exact ⟨t0_Sn, t0_Ds, t0_b, t0_a, t0_He, fun z => To_t0 z.symm, fun k hk => by
        match k, hk with
        | 0, _ => exact t0_h0
        | 1, _ => exact t0_h1⟩
    | 1, _ => exact ⟨t1_Sn, t1_Ds, t1_b, t1_a, t1_He, fun z => To_t1 z.symm, fun k hk => by
        match k, hk with
        | 0, _ => exact t1_h0
        | 1, _ => exact t1_h1⟩
  have hh2 : ∀ j, j < 2 → j ≠ i → h j ≠ h i := fun j hj n => two_ne (f := h) (fun z => h1_h0 z.symm) hi hj n
  have tt2 : ∀ j, j < 2 → j ≠ i → t j ≠ t i := fun j hj n => two_ne (f := t) (fun z => t1_t0 z.symm) hi hj n
  obtain ⟨hi1, hi2, hi3, hi4, hi5, hi6⟩ := hne i hi
  obtain ⟨ti1, ti2, ti3, ti4, ti5, ti6, ti7⟩ := tne i hi
  -- what is no list of these stays up to H4
  have k04 : ∀ x o, x ≠ Sn → x ≠ h i → H x = some o → H4 x = some o := fun x o n1 n2 hx => by
    rw [x4, upd_ne n2, x3, upd_ne n1]
    exact hx
  have kl4 : Kl H H4 := fun x o nn hx => k04 x o (fun z => nn _ (Option.some.inj ((z ▸ hx).symm.trans W.hS))) (fun z => nn _ (Option.some.inj ((z ▸ hx).symm.trans (W.hh i hi)))) hx
  have de4 : ∀ j, j < 2 → DeskAt K CR CP CQ CK H4 (d j) (q j) (runC (cs j)).1 := fun j hj => kl4.desk (W.de j hj)
  obtain ⟨dxi, pi, hdi, _, dxq, pq, ddq, xq, hqi, _⟩ := id (de4 i hi)
  -- a list stays while the desk answers
  have k45 : ∀ x l, H4 x = some (.lst l) → H5 x = some (.lst l) := fun x l hx => k5 x _ (ne_of hx hdi fun z => nomatch z) (ne_of hx hqi fun z => nomatch z) hx
  have l05 : ∀ x l, x ≠ Sn → x ≠ h i → H x = some (.lst l) → H5 x = some (.lst l) := fun x l n1 n2 hx => k45 x l (k04 x _ n1 n2 hx)
  have hti5 := l05 _ _ ti1 (ti7 i hi) (W.ht i hi)
  refine ⟨hti5, ?_⟩
  have kl6 : Kl H5 (upd H5 (t i) (.lst ((runC (cs i)).2.map V.str ++ [.str (c.step (runC (cs i)).1).2]))) := fun x o nn hx => by
    rw [upd_ne fun z => nn _ (Option.some.inj ((z ▸ hx).symm.trans hti5))]
    exact hx
  have l06 : ∀ x l, x ≠ Sn → x ≠ h i → x ≠ t i → H x = some (.lst l) → upd H5 (t i) (.lst ((runC (cs i)).2.map V.str ++ [.str (c.step (runC (cs i)).1).2])) x = some (.lst l) := fun x l n1 n2 n3 hx => by
    rw [upd_ne n3]
    exact l05 x l n1 n2 hx
  obtain ⟨ns, mm, D1, D2, D3⟩ := W.D.ex
  have nqi : ∀ j, j < 2 → j ≠ i → q j ≠ q' := fun j hj n => by
    rcases hq with z | z
    · rw [z]
      exact two_ne W.nq hi hj n
    · intro e
      obtain ⟨_, _, _, _, _, _, _, _, g, _⟩ := de4 j hj
      rw [e, z] at g
      cases g
  have nB6 : B q' = none := by
    rcases hq with z | z
    · rw [z]
      exact (W.nB.2.2.2 i hi).2.1
    · cases e : B q' with
      | none => rfl
      | some o =>
        have hx := W.ex _ _ e
        have := k04 q' o (fun y => by rw [y, W.nB.2.2.1] at e; cases e) (fun y => by rw [y, (W.nB.2.2.2 i hi).2.2.1] at e; cases e) hx
        rw [this] at z
        cases z
  refine ⟨⟨ns, mm, l06 _ _ (fun z => Sn_a z.symm) (fun z => hi4 z.symm) (fun z => ti4 z.symm) D1, l06 _ _ (fun z => Sn_b z.symm) (fun z => hi3 z.symm) (fun z => ti3 z.symm) D2, D3⟩, fun x o hx => ?_, ⟨W.nB.1, W.nB.2.1, W.nB.2.2.1, fun j hj => ?_⟩, l06 _ _ (fun z => Sn_Ds z.symm) (fun z => hi2 z.symm) (fun z => ti2 z.symm) W.hD, ?_, l06 _ _ (fun z => He_Sn z) (fun z => hi5 z.symm) (fun z => ti5 z.symm) W.hH, l06 _ _ (fun z => To_Sn z) (fun z => hi6 z.symm) (fun z => ti6 z.symm) W.hT, fun j hj => ?_, fun j hj => ?_, fun j hj => ?_, fun j hj => ?_, W.nd, ?_, W.nl⟩
  · have hx0 := W.ex _ _ hx
    obtain ⟨b1, b2, b3, b4⟩ := W.nB.2.2.2 i hi
    rw [upd_ne (ne_of_none hx b4)]
    exact k5 x o (ne_of_none hx b1) (ne_of_none hx b2) (k04 x o (ne_of_none hx W.nB.2.2.1) (ne_of_none hx b3) hx0)
  · obtain ⟨b1, b2, b3, b4⟩ := W.nB.2.2.2 j hj
    refine ⟨b1, ?_, b3, b4⟩
    show B (if j = i then q' else q j) = none
    split
    · exact nB6
    · exact b2
  · rw [upd_ne fun z => ti1 z.symm]
    refine k45 _ _ ?_
    rw [x4, upd_ne fun z => hi1 z.symm, x3, upd_same]
    match i, hi with
    | 0, _ =>
      show _ = some (HO.lst [.int ((runC (cs 0 ++ [c])).1.sent.length : Int), .int ((runC (cs 1)).1.sent.length : Int)])
      rw [runC_snoc]
      rfl
    | 1, _ =>
      show _ = some (HO.lst [.int ((runC (cs 0)).1.sent.length : Int), .int ((runC (cs 1 ++ [c])).1.sent.length : Int)])
      rw [runC_snoc]
      rfl
  · show _ = some (HO.lst ((if j = i then cs i ++ [c] else cs j).map fun c => V.str c.text))
    by_cases n : j = i
    · subst n
      rw [if_pos rfl, upd_ne fun z => ti7 j hj z.symm, List.map_append]
      refine k45 _ _ ?_
      rw [x4, upd_same]
      rfl
    · rw [if_neg n]
      exact l06 _ _ (hne j hj).1 (hh2 j hj n) (fun z => ti7 j hj z.symm) (W.hh j hj)
  · show _ = some (HO.lst ((runC (if j = i then cs i ++ [c] else cs j)).2.map V.str))
    by_cases n : j = i
    · subst n
      rw [if_pos rfl, upd_same, runC_snoc, List.map_append]
      rfl
    · rw [if_neg n]
      exact l06 _ _ (tne j hj).1 ((tne j hj).2.2.2.2.2.2 i hi) (tt2 j hj n) (W.ht j hj)
  · show DeskAt K CR CP CQ CK _ (d j) (if j = i then q' else q j) (runC (if j = i then cs i ++ [c] else cs j)).1
    by_cases n : j = i
    · subst n
      rw [if_pos rfl, if_pos rfl, runC_snoc]
      exact kl6.desk d5
    · rw [if_neg n, if_neg n]
      exact kl6.desk ((de4 j hj).other (de4 i hi) k5 (two_ne W.nd hi hj n) (two_ne W.nq hi hj n))
  · show OkC (if j = i then cs i ++ [c] else cs j)
    by_cases n : j = i
    · rw [if_pos n]
      exact (W.ok i hi).snoc hl ok
    · rw [if_neg n]
      exact W.ok j hj
  · show (if 0 = i then q' else q 0) ≠ (if 1 = i then q' else q 1)
    by_cases z : i = 0
    · have e1 : ¬ 1 = i := by omega
      rw [if_pos z.symm, if_neg e1]
      exact (nqi 1 (by decide) e1).symm
    · have e0 : ¬ 0 = i := fun y => z y.symm
      have e1 : 1 = i := by omega
      rw [if_neg e0, if_pos e1]
      exact nqi 0 (by decide) e0
end
end Ov


namespace Ov
open PySem PySem.Spec PyProof.Rows L2
open Evl (pss_cut tCut Ex Ev EvT EvL EvA EvU)
open TL (tl pre spl joinL spl_hit spl_miss spl_nil tl_append map_tl_inj spl_part1)
/-! ### addresses that are there, without twins -/
structure Fr (H : Hp) (l : List Addr) : Prop where
  nd : l.Nodup
  is : ∀ x ∈ l, H x ≠ none
theorem Fr.ext {H H' : Hp} {l : List Addr} (f : Fr H l) (e : Ex H H') : Fr H' l := ⟨f.nd, fun x hx z => f.is x hx (by
  cases y : H x with
  | none => rfl
  | some o =>
    rw [e _ _ y] at z
    cases z)⟩
theorem Fr.new {H : Hp} {l : List Addr} {p : Addr} {o : HO} (f : Fr H l) (n : H p = none) : Fr (upd H p o) (p :: l) := ⟨List.nodup_cons.mpr ⟨fun h => f.is p h n, f.nd⟩, fun x hx => by
  rcases List.mem_cons.mp hx with z | z
  · rw [z, upd_same]
    exact fun y => nomatch y
  · rw [upd_ne fun y => f.is x z (by rw [y]; exact n)]
    exact f.is x z⟩
def pick2 (x y : Addr) : Nat → Addr
  | 0 => x
  | _ => y
/-! ### while they are looked at -/
structure Rst (K : PySem.W.Frag) (CR CP CQ CK : Addr) (B : Hp) (Ds He To : Addr) (d h t q : Nat → Addr) (cs : Nat → List Co) (j : Nat) (H : Hp) : Prop where
  ex : Ex B H
  hD : H Ds = some (.lst [.ref (d 0), .ref (d 1)])
  hH : H He = some (.lst [.ref (h 0), .ref (h 1)])
  hT : H To = some (.lst [.ref (t 0), .ref (t 1)])
  hh : ∀ i, i < 2 → H (h i) = some (.lst ((cs i).map fun c => V.str c.text))
  ht : ∀ i, i < 2 → H (t i) = some (.lst ((runC (cs i)).2.map V.str))
  de : ∀ i, i < 2 → j ≤ i → DeskAt K CR CP CQ CK H (d i) (q i) (runC (cs i)).1
section
variable {K : PySem.W.Frag} {CR CP CQ CK : Addr} {B H H' : Hp} {a b Ds Sn He To q2 : Addr} {d h t q : Nat → Addr} {cs : Nat → List Co} {j : Nat} {m : PoM} {σ : L2.St} {D : Ends}
theorem Rst.ext (R : Rst K CR CP CQ CK B Ds He To d h t q cs j H) (e : Ex H H') : Rst K CR CP CQ CK B Ds He To d h t q cs j H' := ⟨R.ex.trans e, e _ _ R.hD, e _ _ R.hH, e _ _ R.hT, fun i hi => e _ _ (R.hh i hi), fun i hi => e _ _ (R.ht i hi), fun i hi l => (R.de i hi l).ext e⟩
theorem Rst.step (R : Rst K CR CP CQ CK B Ds He To d h t q cs j H) : Rst K CR CP CQ CK B Ds He To d h t q cs (j + 1) H := ⟨R.ex, R.hD, R.hH, R.hT, R.hh, R.ht, fun i hi l => R.de i hi (by omega)⟩
theorem Rst.said2 (R : Rst K CR CP CQ CK B Ds He To d h t q cs (j + 1) H) (hj : j < 2) (nd : d 0 ≠ d 1) (nq : ∀ k, k < 2 → j + 1 ≤ k → q k ≠ q2) (nB : ∀ i, i < 2 → B (d i) = none ∧ B (q i) = none ∧ B (h i) = none ∧ B (t i) = none) (nB2 : B q2 = none) (da : DeskAt K CR CP CQ CK H (d j) q2 m) (k : Kp (d j) q2 H H') : Rst K CR CP CQ CK B Ds He To d h t q cs (j + 1) H' := by
  obtain ⟨dx, p, g1, _, dy, r, ee, ys, g3, _⟩ := id da
  have l : ∀ x l, H x = some (.lst l) → H' x = some (.lst l) := fun x l hx => k x _ (ne_of hx g1 fun z => nomatch z) (ne_of hx g3 fun z => nomatch z) hx
  exact ⟨fun x o hx => k x o (ne_of_none hx (nB j hj).1) (ne_of_none hx nB2) (R.ex _ _ hx), l _ _ R.hD, l _ _ R.hH, l _ _ R.hT, fun i hi => l _ _ (R.hh i hi), fun i hi => l _ _ (R.ht i hi), fun i hi le => (R.de i hi le).other da k (two_ne nd hj hi (by omega)) (nq i hi le)⟩
theorem Rst.said (R : Rst K CR CP CQ CK B Ds He To d h t q cs j H) (hj : j < 2) (nd : d 0 ≠ d 1) (nq : q 0 ≠ q 1) (nB : ∀ i, i < 2 → B (d i) = none ∧ B (q i) = none ∧ B (h i) = none ∧ B (t i) = none) (da : DeskAt K CR CP CQ CK H (d j) (q j) m) (k : Kp (d j) (q j) H H') : Rst K CR CP CQ CK B Ds He To d h t q cs (j + 1) H' :=
  R.step.said2 hj nd (fun i hi le => two_ne nq hj hi (by omega)) nB (nB j hj).2.1 da k
theorem Wt.mid {i : Nat} {c : Co} {H3 H4 : Hp} (W : Wt K CR CP CQ CK B a b Ds Sn He To d h t q cs H) (hi : i < 2) {x : List V} (x3 : H3 = upd H Sn (.lst x)) (x4 : H4 = upd H3 (h i) (.lst (((cs i).map fun c => V.str c.text) ++ [.str c.text]))) :
    H3 He = some (.lst [.ref (h 0), .ref (h 1)]) ∧ H3 (h i) = some (.lst ((cs i).map fun c => V.str c.text)) ∧ H4 To = some (.lst [.ref (t 0), .ref (t 1)]) ∧ H4 (t i) = some (.lst ((runC (cs i)).2.map V.str)) ∧ H4 Ds = some (.lst [.ref (d 0), .ref (d 1)]) ∧ DeskAt K CR CP CQ CK H4 (d i) (q i) (runC (cs i)).1 := by
  have nl := W.nl
  simp only [List.nodup_cons, List.mem_cons, List.not_mem_nil, or_false, not_or, not_false_eq_true, true_and, and_true, List.nodup_nil] at nl
  obtain ⟨⟨To_t1, To_t0, To_He, To_h1, To_h0, To_Sn, To_Ds, To_b, To_a⟩, ⟨t1_t0, t1_He, t1_h1, t1_h0, t1_Sn, t1_Ds, t1_b, t1_a⟩, ⟨t0_He, t0_h1, t0_h0, t0_Sn, t0_Ds, t0_b, t0_a⟩, ⟨He_h1, He_h0, He_Sn, He_Ds, He_b, He_a⟩, ⟨h1_h0, h1_Sn, h1_Ds, h1_b, h1_a⟩, ⟨h0_Sn, h0_Ds, h0_b, h0_a⟩, ⟨Sn_Ds, Sn_b, Sn_a⟩, ⟨Ds_b, Ds_a⟩, b_a⟩ := nl
  have all : h i ≠ Sn ∧ To ≠ h i ∧ t i ≠ Sn ∧ t i ≠ h i ∧ Ds ≠ h i := by
    match i, hi with
    | 0, _ => exact ⟨h0_Sn, To_h0, t0_Sn, t0_h0, fun z => h0_Ds z.symm⟩
    | 1, _ => exact ⟨h1_Sn, To_h1, t1_Sn, t1_h1, fun z => h1_Ds z.symm⟩
  obtain ⟨a1, a2, a3, a4, a5⟩ := all
  have k04 : ∀ x o, x ≠ Sn → x ≠ h i → H x = some o → H4 x = some o := fun x o n1 n2 hx => by
    rw [x4, upd_ne n2, x3, upd_ne n1]
    exact hx
  have kl4 : Kl H H4 := fun x o nn hx => k04 x o (fun z => nn _ (Option.some.inj ((z ▸ hx).symm.trans W.hS))) (fun z => nn _ (Option.some.inj ((z ▸ hx).symm.trans (W.hh i hi)))) hx
  exact ⟨by rw [x3, upd_ne He_Sn]; exact W.hH, by rw [x3, upd_ne a1]; exact W.hh i hi, k04 _ _ To_Sn a2 W.hT, k04 _ _ a3 a4 (W.ht i hi), k04 _ _ (fun z => Sn_Ds z.symm) a5 W.hD, kl4.desk (W.de i hi)⟩
theorem or_goK {t u : TT} {Q : Bool → Hp → Prop} (k : t σ H fun b H1 => if b = true then Q true H1 else u σ H1 Q) : tOr t u σ H Q := k
theorem if_goK {t : TT} {tu tv : TS} (k : t σ H fun c H1 => if c = true then tu D σ H1 else tv D σ H1) : tIfS t tu tv D σ H := k
end
def spLaw (K : PySem.W.Frag) : Sp := fun vs H Q _ => ∃ (a : Addr) (ns : List Int), vs = [.ref a] ∧ SqL K H a (ns.map V.int) ∧ ns.length ≤ 63 ∧ ∀ H', Q (.bl true) H'
section
variable {K : PySem.W.Frag} {CR CP CQ CK : Addr} {H : Hp} {d q : Addr} {σ : L2.St} {te to : TE} {m : PoM}
theorem ev_postOf (TK : TxK K CK) (da : DeskAt K CR CP CQ CK H d q m) (ho : Ev to σ H (.ref d)) : Ev (tFld K to "post") σ H (.ref q) := by
  obtain ⟨dx, p, hd, _⟩ := da
  exact ev_fld ho hd TK.cl TK.post k_post
/-- what both posts sent is the same -/
theorem ev_sentNe {q2 : Addr} {t2 : TE} (I : PInv m) (hl : m.ds.length ≤ 4000) (pa : PostAt K CR CP CQ H q m) (h1 : Ev to σ H (.ref q)) (pb : PostAt K CR CP CQ H q2 m) (h2 : Ev t2 σ H (.ref q2)) : Ev (tOp (rNeD K) (tProp CQ (spSent K CR CP CQ) [] E0 to) (tProp CQ (spSent K CR CP CQ) [] E0 t2)) σ H (.bl false) := fun H1 e1 Q k => by
  refine op_goK ?_
  refine sent_go pa (by omega) h1 H1 e1 _ fun t xs H3 e3 st sx => ?_
  refine sent_go (pb.ex e1) (by omega) (h2.mono e1) H3 e3 _ fun t2 xs2 H4 e4 st2 sx2 => ?_
  exact rv_neSame (K := K) (fun H5 e5 => .tup (Evl.ex_t (e4.trans e5) st) (dpa_sent (sx.keep fun _ _ z => (e4.trans e5) _ _ z))) (fun H5 e5 => .tup (Evl.ex_t e5 st2) (dpa_sent (sx2.keep fun _ _ z => e5 _ _ z))) (gd_sent I.sk) (by decide) H4 (Ex.refl _) Q fun H5 e5 => k H5 ((e3.trans e4).trans e5)
/-- a new post sent only the asking -/
theorem ev_sentNew {ks : List Str} {rs : List RuleD} {n : Nat} (pa : PostAt K CR CP CQ H q ⟨ks, rs, n, []⟩) (h1 : Ev to σ H (.ref q)) : Ev (tOp (rNeD K) (tProp CQ (spSent K CR CP CQ) [] E0 to) (tTup (tCons (tTup (tCons (tC (.str "ask")) (tCons (tC .non) (tCons (tC (.int 0)) tNil)))) tNil))) σ H (.bl false) := fun H1 e1 Q k => by
  refine op_goK ?_
  refine sent_go pa (Nat.zero_le _) h1 H1 e1 _ fun t xs H3 e3 st sx => ?_
  refine ⟨size_of (by show 3 ≤ 100000; decide), fun t1 n1 => ⟨size_of (by show 1 ≤ 100000; decide), fun t2 n2 => ?_⟩⟩
  have x1 := Ex.new (o := .tup [V.str "ask", V.non, V.int 0]) n1
  have x2 := Ex.new (o := .tup [V.ref t1]) n2
  exact (rv_neSame (K := K) (d := .tuple (([("ask", none, 0)] : List L3).map sentD)) (n := 2) (fun H4 e4 => .tup (Evl.ex_t ((x1.trans x2).trans e4) st) (dpa_sent (sx.keep fun _ _ z => ((x1.trans x2).trans e4) _ _ z))) (fun H4 e4 => .tup (Evl.st_of (e4 _ _ upd_same)) (.cons (.tup (Evl.st_of (e4 _ _ (x2 _ _ upd_same))) (.cons (.str _) (.cons .non (.cons (.int _) .nil)))) .nil)) (gd_sent (m := ⟨ks, rs, n, []⟩) fun l hl => by
    rw [List.mem_singleton.mp (show l ∈ ([("ask", none, 0)] : List L3) from hl)]
    decide) (by decide)) _ (Ex.refl _) Q fun H4 e4 => k H4 ((e3.trans (x1.trans x2)).trans e4)
end
theorem dp_strsL {K : PySem.W.Frag} {H : Hp} : ∀ l : List Str, DpAll K H (l.map V.str) (l.map PyData.str) := dp_strs
theorem undo_none : (if 0 < ([] : List DD).length then ("undone" : Str) else "nothing") = "nothing" := rfl
theorem view_new (ks : List Str) (rs : List RuleD) (n : Nat) : seenT (viewAt ⟨ks, rs, n, []⟩ "ann" 1) = "nothing" := rfl
theorem shows_text : (Co.shows "ann" 1).text = ("shows ann 1" : Str) := by
  show ((("shows " : Str) ++ "ann") ++ " ") ++ strI 1 = _
  decide +kernel
theorem post_text : (Co.post 2).text = ("post 2" : Str) := by
  show ("post " : Str) ++ strI 2 = _
  decide +kernel
section
variable {P : Program} {w : World} {K : PySem.W.Frag} {mg : Str → Option Value} {base : Heap} {CR CP CQ CK : Addr} {tCm tHd tAn : Tok}
theorem scLaw : FnScope ["_law_script", "_law_spot", "_law_deal_here", "_law_desks", "_law_sent", "_law_heard", "_law_told", "_law_turn", "_law_at", "_law_line", "_law_third"] ["_law_script"] (defScope sLaw) := ⟨rfl, rfl, rfl, by decide +kernel, rfl, by decide +kernel, by decide +kernel⟩
theorem ok_law {f fDeal fDraw fCo fSay fDI qLen pSn qSn : Addr} {fd fdDeal fdDraw fdCo fdSay fdDI fqLen fqSn : FuncData}
    (F : Fun K "law" "law" sLaw f fd) (T : TxB mg) (TQ : TxQ K mg CQ tCm tHd tAn) (TK : TxK K CK) (g_Desk : mg "Desk" = some (.ref CK))
    (D_deal : Df K mg "_law_deal" sDeal ["_law_script", "_law_base"] fDeal fdDeal) (D_draw : Df K mg "_law_draw" sDraw ["_law_deal_here", "_law_many"] fDraw fdDraw)
    (D_command : Df K mg "_law_command" sCommand ["_law_deal_here", "_law_sent"] fCo fdCo) (G_command : FnOk P w K mg base CX0 5 fCo fdCo ["_law_deal_here", "_law_sent"] spCommand)
    (M_say : Meth K CK "say" fSay) (G_say : FnOk P w K mg base CX0 10 fSay fdSay ["self", "command"] (spSay K CR CP CQ CK)) (b_say : Binds K fdSay ["self", "command"] [])
    (M_len : Meth K CQ "__len__" qLen) (G_len : FnOk P w K mg base CX0 1 qLen fqLen ["self"] (spPostLen K CR CP CQ)) (b_len : Binds K fqLen ["self"] [])
    (P_sent : PropOf K CQ "sent" pSn qSn) (G_sent : FnOk P w K mg base CX0 1 qSn fqSn ["self"] (spSent K CR CP CQ)) (b_psent : Binds K fqSn ["self"] [])
    (mkD : Mk K CK fDI) (G_dinit : FnOk P w K mg base CX0 5 fDI fdDI ["self"] (spDeskInit K CR CP CQ CK)) (b_dinit : Binds K fdDI ["self"] []) :
    FnOk P w K mg base CX0 12 f fd ["_law_script"] (spLaw K) := by
  have G_deal : FnOk P w K mg base CX0 1 fDeal fdDeal ["_law_script", "_law_base"] (spDeal K) := ok_deal D_deal.F T
  have G_draw : FnOk P w K mg base CX0 1 fDraw fdDraw ["_law_deal_here", "_law_many"] spDraw := ok_draw D_draw.F T.n_int
  refine F.ok scLaw (fun vs H Q E h => ?_) (fun cdv A outer s H vs Q E hr h => ?_)
  · obtain ⟨a, ns, rfl, _⟩ := h
    rfl
  · obtain ⟨sa, ns, rfl, hS, hlen, kq⟩ := h
    refine ⟨_, pss_cut (ps_for PassesOwn.never rfl (pi_range1 rfl T.n_range (pa_cons (pe_callB (call_max2 rfl) (by rfl) T.n_max (by decide +kernel) (pa_cons pe_int (pa_cons (pe_callB (call_min2 rfl) (by rfl) T.n_min (by decide +kernel) (pa_cons pe_int (pa_cons (pe_callB call_len_seq (by rfl) T.n_len (by decide +kernel) (pa_cons (pv 0) pa_nil)) pa_nil))) pa_nil))) pa_nil)) (pg_name (i := 1) scLaw.nd rfl (Or.inl rfl)) (pss_cons (ps_par (i := 2) (j := 3) (by rfl) scLaw.nd rfl rfl (by decide) rfl rfl (pa_cons (pe_call (E := E0) G_deal (hr.mono (by decide)) rfl D_deal.g D_deal.F.kp D_deal.b .nil pass0 (pa_cons (pv 0) (pa_cons (pv 1) pa_nil))) (pa_cons (pe_lst (pa_cons (pe_make0 (sp := spDeskInit K CR CP CQ CK) (E := E0) mkD G_dinit (hr.mono (by decide)) rfl g_Desk b_dinit .nil pass0) (pa_cons (pe_make0 (sp := spDeskInit K CR CP CQ CK) (E := E0) mkD G_dinit (hr.mono (by decide)) rfl g_Desk b_dinit .nil pass0) pa_nil))) pa_nil)) (by rfl))
      (pss_cons (ps_par3 (i := 4) (j := 5) (l := 6) (by rfl) scLaw.nd rfl rfl rfl (by decide) (by decide) (by decide) rfl rfl rfl (pa_cons (pe_lst (pa_cons pe_int (pa_cons pe_int pa_nil))) (pa_cons (pe_lst (pa_cons (pe_lst pa_nil) (pa_cons (pe_lst pa_nil) pa_nil))) (pa_cons (pe_lst (pa_cons (pe_lst pa_nil) (pa_cons (pe_lst pa_nil) pa_nil))) pa_nil))) (by rfl))
      (pss_cut (ps_for PassesOwn.never rfl (pi_range1 rfl T.n_range (pa_cons (pe_op op_add pe_int (pe_call (E := E0) G_draw (hr.mono (by decide)) rfl D_draw.g D_draw.F.kp D_draw.b .nil pass0 (pa_cons (pv 2) (pa_cons pe_int pa_nil)))) pa_nil)) (pg_name (i := 7) scLaw.nd rfl (Or.inl rfl)) (pss_cons (ps_set (i := 8) scLaw.nd rfl (.inl rfl) (pe_call (E := E0) G_draw (hr.mono (by decide)) rfl D_draw.g D_draw.F.kp D_draw.b .nil pass0 (pa_cons (pv 2) (pa_cons pe_int pa_nil))))
      (pss_cons (ps_asg (pe_call (E := E0) G_command (hr.mono (by decide)) rfl D_command.g D_command.F.kp D_command.b .nil pass0 (pa_cons (pv 2) (pa_cons (pe_ix ix_list (pv 4) (pv 8) (fun _ _ => rfl)) pa_nil))) (pg_tup (by rfl) (pgs_cons (pg_name (i := 9) scLaw.nd rfl (Or.inl rfl)) (pgs_cons (pg_sub (pv 4) (pv 8) set_list) pgs_nil))))
      (pss_cons (ps_expr (pe_bm PySem.F.plainAttrs_list PySem.F.slot_list_append PySem.F.type_list_append mt_append (pe_ix ix_list (pv 5) (pv 8) (fun _ _ => rfl)) (pa_cons (pv 9) pa_nil)))
      (pss_one (ps_expr (pe_bm PySem.F.plainAttrs_list PySem.F.slot_list_append PySem.F.type_list_append mt_append (pe_ix ix_list (pv 6) (pv 8) (fun _ _ => rfl)) (pa_cons (pe_meth (E := E0) (pe_ix ix_list (pv 3) (pv 8) (fun _ _ => rfl)) TK.cl M_say G_say (hr.mono (by decide)) b_say .nil pass0 (pa_cons (pv 9) pa_nil)) pa_nil))))))))
      (pss_one (ps_for PassesOwn.never rfl (pi_range1 rfl T.n_range (pa_cons pe_int pa_nil)) (pg_name (i := 8) scLaw.nd rfl (Or.inl rfl)) (pss_cons (ps_set (i := 10) scLaw.nd rfl (.inr rfl) (pe_make0 (sp := spDeskInit K CR CP CQ CK) (E := E0) mkD G_dinit (hr.mono (by decide)) rfl g_Desk b_dinit .nil pass0))
      (pss_cons (ps_if (pt_cmpR (op_neD hr.units) (pe_lc (own := [("_law_line", 9)]) (g := gName 9) (tt := tYes) rfl scLaw.nd (pi_list (pe_ix ix_list (pv 5) (pv 8) (fun _ _ => rfl))) (blkOk_by (own := [("_law_line", 9)]) (N := ["_law_script", "_law_spot", "_law_deal_here", "_law_desks", "_law_sent", "_law_heard", "_law_told", "_law_turn", "_law_at", "_law_line", "_law_third"]) (sc := defScope sLaw) (by decide +kernel)) (fun _ _ _ _ _ => (pg_name (i := 9) scLaw.nd rfl (Or.inl rfl))) (fun _ _ _ _ _ => pts_nil) (fun _ _ _ _ _ => (pe_meth (E := E0) (pv 10) TK.cl M_say G_say (hr.mono (by decide)) b_say .nil pass0 (pa_cons (pv 9) pa_nil)))) (pe_ix ix_list (pv 6) (pv 8) (fun _ _ => rfl)) (nomark _)) (pss_one (ps_ret pe_bl)) pss_nil)
      (pss_cons (ps_if (PW.pt (pw_or (pt_cmpR (op_neD hr.units) (pe_prop (E := E0) (pe_fld (pv 10) rfl) TQ.cl P_sent G_sent (hr.mono (by decide)) b_psent .nil pass0 rfl) (pe_prop (E := E0) (pe_fld (pe_ix ix_list (pv 3) (pv 8) (fun _ _ => rfl)) rfl) TQ.cl P_sent G_sent (hr.mono (by decide)) b_psent .nil pass0 rfl) (nomark _)) (pw_or1 (pt_cmpR op_ne (pe_callB (r := rLenI CQ (spPostLen K CR CP CQ) E0) (call_lenI G_len (hr.mono (by decide)) M_len.at_ M_len.fn b_len pass0) (by rfl) T.n_len (by decide +kernel) (pa_cons (pe_fld (pv 10) rfl) pa_nil)) (pe_callB (r := rLenI CQ (spPostLen K CR CP CQ) E0) (call_lenI G_len (hr.mono (by decide)) M_len.at_ M_len.fn b_len pass0) (by rfl) T.n_len (by decide +kernel) (pa_cons (pe_fld (pe_ix ix_list (pv 3) (pv 8) (fun _ _ => rfl)) rfl) pa_nil)) (nomark _))))) (pss_one (ps_ret pe_bl)) pss_nil)
      (pss_cons (ps_if (PW.pt (pw_or (pt_cmpR op_ne (pe_meth (E := E0) (pe_ix ix_list (pv 3) (pv 8) (fun _ _ => rfl)) TK.cl M_say G_say (hr.mono (by decide)) b_say .nil pass0 (pa_cons pe_str pa_nil)) pe_str (nomark _)) (pw_or1 (pt_cmpR (op_neD hr.units) (pe_prop (E := E0) (pe_fld (pe_ix ix_list (pv 3) (pv 8) (fun _ _ => rfl)) rfl) TQ.cl P_sent G_sent (hr.mono (by decide)) b_psent .nil pass0 rfl) (pe_tup (pa_cons (pe_tup (pa_cons pe_str (pa_cons pe_non (pa_cons pe_int pa_nil)))) pa_nil)) (nomark _))))) (pss_one (ps_ret pe_bl)) pss_nil)
      (pss_one (ps_if (PW.pt (pw_or (pt_cmpR op_ne (pe_meth (E := E0) (pe_ix ix_list (pv 3) (pv 8) (fun _ _ => rfl)) TK.cl M_say G_say (hr.mono (by decide)) b_say .nil pass0 (pa_cons pe_str pa_nil)) pe_str (nomark _)) (pw_or1 (pt_cmpR op_ne (pe_meth (E := E0) (pe_ix ix_list (pv 3) (pv 8) (fun _ _ => rfl)) TK.cl M_say G_say (hr.mono (by decide)) b_say .nil pass0 (pa_cons pe_str pa_nil)) pe_str (nomark _))))) (pss_one (ps_ret pe_bl)) pss_nil))))))))))))
      (pss_one (ps_ret pe_bl)), ?_⟩
    have hm : ∃ n : Int, (if (if ((ns.map V.int).length : Int) < 3 then ((ns.map V.int).length : Int) else 3) > 2 then (if ((ns.map V.int).length : Int) < 3 then ((ns.map V.int).length : Int) else 3) else 2) = n ∧ 0 ≤ n ∧ n ≤ 4 := ⟨_, rfl, by split <;> split <;> omega, by split <;> split <;> omega⟩
    obtain ⟨nn, hn, n0, n5⟩ := hm
    refine Evl.q_cut (M := fun _ _ => True) ?_ (fun σ' H' _ => Evl.s_ret (v := .bl true) Evl.ev_c fun H2 e2 => kq H2)
    refine Evl.s_forR1 (n := nn) ?_ ⟨n0, Int.le_trans n5 (by decide)⟩ (fun _ σ' H' => ∃ b1 b2 b3 b4 b5 b6 b7 b8 b9 b10 : Option V, σ' = [some (.ref sa), b1, b2, b3, b4, b5, b6, b7, b8, b9, b10] ∧ SqL K H' sa (ns.map V.int)) ?_ ?_ (fun _ _ _ => trivial)
    · intro H1 e1 Q2 q2
      refine ⟨_, rfl, sa, _, rfl, .inl (Evl.ex_l e1 hS), 3, _, rfl, 2, _, rfl, ?_⟩
      have q3 := q2 H1 (Ex.refl _)
      rw [← hn] at q3
      exact q3
    · intro H1 e1
      exact ⟨_, _, _, _, _, _, _, _, _, _, rfl, Evl.ex_l e1 hS⟩
    rintro i0 σ' H1 hi0 ⟨b1, b2, b3, b4, b5, b6, b7, b8, b9, b10, rfl, hS1⟩
    -- a deal, two desks
    refine par_goK (cons_goK (call_goK ?_))
    refine ⟨_, rfl, _, rfl, sa, ns, i0, rfl, hS1, hlen, by omega, fun a b H2 s2 na nb D2 => ?_⟩
    have e2 : Ex H1 H2 := fun x o hx => s2 x o hx
    refine cons_goK (lst_goK (cons_goK ?_))
    refine mk_desk fun d0 q0 H3 e3 nd0 nq0 da0 => ?_
    refine cons_goK ?_
    refine mk_desk fun d1 q1 H4 e4 nd1 nq1 da1 => ?_
    refine ⟨size_of (by show 2 ≤ 100000; decide), fun Ds nDs => ?_⟩
    refine ⟨_, _, rfl, ?_⟩
    have e24 := e3.trans e4
    have D4 := D2.keep (ex_same e24)
    have da0' := da0.ext e4
    have ndd : d0 ≠ d1 := fun z => by
      obtain ⟨_, _, g, _⟩ := da0
      rw [z, nd1] at g
      cases g
    have nqq : q0 ≠ q1 := fun z => by
      obtain ⟨_, _, _, _, _, _, _, _, g, _⟩ := da0
      rw [z, nq1] at g
      cases g
    have f0 : Fr H4 [b, a] := ⟨by
      exact List.nodup_cons.mpr ⟨fun z => D4.ne (List.mem_singleton.mp z).symm, List.nodup_cons.mpr ⟨fun z => (nomatch z), List.nodup_nil⟩⟩, fun x hx => by
      simp only [List.mem_cons, List.not_mem_nil, or_false] at hx
      rcases hx with z | z
      · rw [z]
        exact D4.is.2
      · rw [z]
        exact D4.is.1⟩
    have f1 := f0.new (o := .lst [.ref d0, .ref d1]) nDs
    have x4 : Ex H1 H4 := e2.trans e24
    have x5 := x4.trans (Ex.new (o := .lst [.ref d0, .ref d1]) nDs)
    have hDs := upd_same (H := H4) (a := Ds) (o := .lst [.ref d0, .ref d1])
    have E5 : Ex H4 (upd H4 Ds (.lst [.ref d0, .ref d1])) := Ex.new nDs
    generalize upd H4 Ds (.lst [.ref d0, .ref d1]) = H5 at f1 x5 hDs E5
    -- the lists
    refine par3_goK (cons_goK (lst_goK (cons_goK (c_goK (cons_goK (c_goK ⟨size_of (by show 2 ≤ 100000; decide), fun Sn nSn => ?_⟩))))))
    have f2 := f1.new (o := .lst [.int 1, .int 1]) nSn
    have hSn := upd_same (H := H5) (a := Sn) (o := .lst [.int 1, .int 1])
    have E6 : Ex H5 (upd H5 Sn (.lst [.int 1, .int 1])) := Ex.new nSn
    generalize upd H5 Sn (.lst [.int 1, .int 1]) = H6 at f2 hSn E6
    refine cons_goK (lst_goK (cons_goK (lst_goK ⟨Nat.zero_le _, fun h0 nh0 => ?_⟩)))
    have f3 := f2.new (o := .lst []) nh0
    have hh0 := upd_same (H := H6) (a := h0) (o := .lst [])
    have E7 : Ex H6 (upd H6 h0 (.lst [])) := Ex.new nh0
    generalize upd H6 h0 (.lst []) = H7 at f3 hh0 E7
    refine cons_goK (lst_goK ⟨Nat.zero_le _, fun h1 nh1 => ?_⟩)
    have f4 := f3.new (o := .lst []) nh1
    have hh1 := upd_same (H := H7) (a := h1) (o := .lst [])
    have E8 : Ex H7 (upd H7 h1 (.lst [])) := Ex.new nh1
    generalize upd H7 h1 (.lst []) = H8 at f4 hh1 E8
    refine ⟨size_of (by show 2 ≤ 100000; decide), fun He nHe => ?_⟩
    have f5 := f4.new (o := .lst [.ref h0, .ref h1]) nHe
    have hHe := upd_same (H := H8) (a := He) (o := .lst [.ref h0, .ref h1])
    have E9 : Ex H8 (upd H8 He (.lst [.ref h0, .ref h1])) := Ex.new nHe
    generalize upd H8 He (.lst [.ref h0, .ref h1]) = H9 at f5 hHe E9
    refine cons_goK (lst_goK (cons_goK (lst_goK ⟨Nat.zero_le _, fun t0 nt0 => ?_⟩)))
    have f6 := f5.new (o := .lst []) nt0
    have ht0 := upd_same (H := H9) (a := t0) (o := .lst [])
    have E10 : Ex H9 (upd H9 t0 (.lst [])) := Ex.new nt0
    generalize upd H9 t0 (.lst []) = H10 at f6 ht0 E10
    refine cons_goK (lst_goK ⟨Nat.zero_le _, fun t1 nt1 => ?_⟩)
    have f7 := f6.new (o := .lst []) nt1
    have ht1 := upd_same (H := H10) (a := t1) (o := .lst [])
    have E11 : Ex H10 (upd H10 t1 (.lst [])) := Ex.new nt1
    generalize upd H10 t1 (.lst []) = H11 at f7 ht1 E11
    refine ⟨size_of (by show 2 ≤ 100000; decide), fun To nTo => ?_⟩
    have f8 := f7.new (o := .lst [.ref t0, .ref t1]) nTo
    have hTo := upd_same (H := H11) (a := To) (o := .lst [.ref t0, .ref t1])
    have E12 : Ex H11 (upd H11 To (.lst [.ref t0, .ref t1])) := Ex.new nTo
    generalize upd H11 To (.lst [.ref t0, .ref t1]) = H12 at f8 hTo E12
    refine ⟨_, _, _, rfl, ?_⟩
    have E1112 := E11.trans E12
    have E1012 := E10.trans E1112
    have E912 := E9.trans E1012
    have E812 := E8.trans E912
    have E712 := E7.trans E812
    have E612 := E6.trans E712
    have E512 := E5.trans E612
    have x12 : Ex H1 H12 := x4.trans E512
    have W0 : Wt K CR CP CQ CK H1 a b Ds Sn He To (pick2 d0 d1) (pick2 h0 h1) (pick2 t0 t1) (pick2 q0 q1) (fun _ => []) H12 := by
      refine ⟨D4.keep (ex_same E512), x12, ⟨na, nb, Evl.fresh_back x5 nSn, fun i hi => ?_⟩, E612 _ _ hDs, E712 _ _ hSn, E1012 _ _ hHe, hTo, fun i hi => ?_, fun i hi => ?_, fun i hi => ?_, fun i hi => OkC.nil, ndd, nqq, f8.nd⟩
      · match i, hi with
        | 0, _ => exact ⟨Evl.fresh_back e2 nd0, Evl.fresh_back e2 nq0, Evl.fresh_back (x5.trans E6) nh0, Evl.fresh_back ((x4.trans (E5.trans (E6.trans (E7.trans E8)))).trans E9) nt0⟩
        | 1, _ => exact ⟨Evl.fresh_back (e2.trans e3) nd1, Evl.fresh_back (e2.trans e3) nq1, Evl.fresh_back ((x5.trans E6).trans E7) nh1, Evl.fresh_back (((x4.trans (E5.trans (E6.trans (E7.trans E8)))).trans E9).trans E10) nt1⟩
      · match i, hi with
        | 0, _ => exact E812 _ _ hh0
        | 1, _ => exact E912 _ _ hh1
      · match i, hi with
        | 0, _ => exact E1112 _ _ ht0
        | 1, _ => exact E12 _ _ ht1
      · match i, hi with
        | 0, _ => exact da0'.ext E512
        | 1, _ => exact da1.ext E512
    generalize pick2 d0 d1 = d at W0
    generalize pick2 h0 h1 = h at W0
    generalize pick2 t0 t1 = t at W0
    generalize pick2 q0 q1 = q at W0
    -- commands
    refine Evl.q_cut (M := fun σ' H' => ∃ (b7 b8 b9 : Option V) (q : Nat → Addr) (cs : Nat → List Co), σ' = [some (.ref sa), some (.int (i0 : Int)), some (.ref a), some (.ref Ds), some (.ref Sn), some (.ref He), some (.ref To), b7, b8, b9, b10] ∧ Wt K CR CP CQ CK H1 a b Ds Sn He To d h t q cs H') ?_ (fun σ' H' hh => ?_)
    · refine ⟨_, rfl, a, b, 20, rfl, W0.D, by decide, by decide, fun tt Hx u0 u1 kx Dx => ?_⟩
      refine rI0_go (v := V.int (16 + tt)) rfl ?_
      refine ⟨_, rfl, by omega, by omega, ?_⟩
      refine for_range (lo := 0) (n := (16 + tt).toNat) (fun j σ' H' => ∃ (b7 b8 b9 : Option V) (q : Nat → Addr) (cs : Nat → List Co), σ' = [some (.ref sa), some (.int (i0 : Int)), some (.ref a), some (.ref Ds), some (.ref Sn), some (.ref He), some (.ref To), b7, b8, b9, b10] ∧ Wt K CR CP CQ CK H1 a b Ds Sn He To d h t q cs H' ∧ ∀ i, i < 2 → (cs i).length ≤ j)
        ⟨_, _, _, _, _, rfl, W0.kl Dx kx, fun _ _ => Nat.le_refl _⟩ ?_ (fun σ' H' ⟨b7, b8, b9, q, cs, e, W, _⟩ => ⟨_, _, _, _, _, e, W⟩)
      rintro j σ' Ha hj ⟨b7, b8, b9, q, cs, rfl, W, lj⟩
      refine asg_goK (call_goK ?_)
      refine ⟨_, rfl, a, b, 2, rfl, W.D, by decide, by decide, fun s0 Hb s1 s2 kb Db => ?_⟩
      obtain ⟨i, rfl⟩ := Int.eq_ofNat_of_zero_le s1
      have hi : i < 2 := by omega
      have Wb := W.kl Db kb
      obtain ⟨vp, ld, lr⟩ := Wb.now hi
      have lji := lj i hi
      have sl := sent_len_le (runC (cs i)).1
      have sp : 0 < (runC (cs i)).1.sent.length := List.length_pos_iff.mpr (sent_ne _)
      refine asgG_goK (call_goK ?_)
      refine (Evl.ea_cons (Evl.ev_var rfl) (Evl.ea_cons (ev_two (K := K) (i := i) (x := 4) (y := 8) (f := fun z => V.int ((runC (cs z)).1.sent.length : Int)) rfl rfl hi Wb.hS) Evl.ea_nil)) Hb (Ex.refl _) _ fun Hc ec => ?_
      have Wc := Wb.ext ec
      refine ⟨a, b, _, rfl, Wc.D, sp, by omega, fun ct c k' Hd nx kd Dd nct hct => ?_⟩
      have Wd := Wc.kl Dd kd
      obtain ⟨cok, ck⟩ := nx _ rfl vp.dy.1
      refine ⟨ct, _, rfl, Evl.st_of hct, rfl, _, _, rfl, _, _, rfl, ?_⟩
      refine ⟨_, rfl, _, rfl, Sn, _, (i : Int), i, rfl, rfl, Wd.hS, two_ix hi, rfl, ?_⟩
      rw [two_set (fun z => V.int ((runC (cs z)).1.sent.length : Int)) (V.int (k' : Int)) hi]
      have e3 : ∀ z : Nat, (if z = i then V.int (k' : Int) else V.int ((runC (cs z)).1.sent.length : Int)) = V.int (((if z = i then (c.step (runC (cs i)).1).1 else (runC (cs z)).1)).sent.length : Int) := fun z => by
        by_cases y : z = i
        · rw [if_pos y, if_pos y, ck]
        · rw [if_neg y, if_neg y]
      rw [e3 0, e3 1]
      obtain ⟨m1, m2, m3, m4, m5, m6⟩ := Wd.mid hi (c := c) rfl rfl
      refine drop_goK (bm_goK ?_)
      refine ⟨_, rfl, _, rfl, He, _, (i : Int), V.ref (h i), rfl, rfl, Evl.sq_of m1, atI_nat (two_at (fun z => V.ref (h z)) hi), .inl ⟨rfl, _, Evl.sq_of m2⟩, _, rfl, h i, _, _, rfl, rfl, m2, Nat.lt_of_lt_of_le (show ((cs i).map fun c => V.str c.text).length < 100000 by rw [List.length_map]; omega) (by decide), ?_⟩
      refine drop_goL (bm_goK ?_)
      refine ⟨_, rfl, _, rfl, To, _, (i : Int), V.ref (t i), rfl, rfl, Evl.sq_of m3, atI_nat (two_at (fun z => V.ref (t z)) hi), .inl ⟨rfl, _, Evl.sq_of m4⟩, cons_goK ?_⟩
      refine say_step (d := d i) (q := q i) (c := c) m6 vp cok (by omega) (ev_two (K := K) (i := i) (x := 3) (y := 8) (f := fun z => V.ref (d z)) rfl rfl hi m5) (Evl.ev_var rfl) fun q' H5 hq k5 d5 => ?_
      obtain ⟨N1, N2⟩ := Wd.next hi cok (by omega) rfl rfl k5 hq d5
      refine ⟨t i, _, _, rfl, rfl, N1, Nat.lt_of_lt_of_le (show ((runC (cs i)).2.map V.str).length < 100000 by rw [List.length_map]; omega) (by decide), ?_⟩
      refine ⟨_, _, _, _, _, rfl, N2, fun z hz => ?_⟩
      show (if z = i then cs i ++ [c] else cs z).length ≤ j + 1
      by_cases y : z = i
      · rw [if_pos y, List.length_append]
        show (cs i).length + 1 ≤ j + 1
        omega
      · rw [if_neg y]
        have := lj z hz
        omega
    · obtain ⟨b7, b8, b9, q, cs, rfl, W⟩ := hh
      obtain ⟨bB1, bB2, bB3, bB4⟩ := W.nB
      refine Evl.s_forR1 (n := 2) (Evl.ea_cons Evl.ev_c Evl.ea_nil) (by decide) (fun j σ' H' => ∃ b8 b9 b10 : Option V, σ' = [some (.ref sa), some (.int (i0 : Int)), some (.ref a), some (.ref Ds), some (.ref Sn), some (.ref He), some (.ref To), b7, b8, b9, b10] ∧ Rst K CR CP CQ CK H1 Ds He To d h t q cs j H')
        (fun H2 e2 => ⟨_, _, _, rfl, (W.ext e2).ex, (W.ext e2).hD, (W.ext e2).hH, (W.ext e2).hT, (W.ext e2).hh, (W.ext e2).ht, fun k hk _ => (W.ext e2).de k hk⟩) ?_ (fun σ' H' ⟨b8, b9, b10, e, R⟩ => ⟨_, _, _, _, _, _, _, _, _, _, e, sqL_mono (fun o ho => R.ex _ _ ho) hS1⟩)
      rintro j σ' G0 hj ⟨b8, b9, b10, rfl, R⟩
      have hj2 : j < 2 := by omega
      obtain ⟨vp, ld, lr⟩ := W.now hj2
      have okj := W.ok j hj2
      have hl44 := okj.le
      have I := vp.now
      -- a third desk
      refine asg_goK ?_
      refine mk_desk fun d3 q3 G1 g1 nd3 nq3 da3 => ?_
      have R1 := R.ext g1
      refine when_goK (test_goK (op_goK ?_))
      refine ⟨_, rfl, _, rfl, He, _, (j : Int), V.ref (h j), rfl, rfl, Evl.sq_of R1.hH, atI_nat (two_at (fun z => V.ref (h z)) hj2), h j, rfl, ⟨_, Evl.sq_of (R1.hh j hj2)⟩, fun Dn nDn => ?_⟩
      have nDn0 : G0 Dn = none := Evl.fresh_back g1 nDn
      refine lc_it (walk_list (xs := (cs j).map fun c => V.str c.text)) (fun n H' => n ≤ (cs j).length ∧ Ex G0 H' ∧ H' Dn = some (.lst ((runC ((cs j).take n)).2.map V.str)) ∧ ∃ q', G0 q' = none ∧ DeskAt K CR CP CQ CK H' d3 q' (runC ((cs j).take n)).1) ⟨Nat.zero_le _, g1.trans (Ex.new nDn), upd_same, q3, nq3, da3.ext (Ex.new nDn)⟩ (fun n H' _ z => Evl.sq_of (z.2.1 _ _ (R.hh j hj2))) ?_ ?_
      · rintro n x Ha Hb hn ⟨n1, x1, hD1, q', nq', dq'⟩ ⟨rfl, hx⟩
        replace hx : ((cs j).map fun c => V.str c.text)[n]? = some x := hx
        rw [List.getElem?_map] at hx
        obtain ⟨c, hc, rfl⟩ := Option.map_eq_some_iff.mp hx
        have nl := (List.getElem?_eq_some_iff.mp hc).1
        obtain ⟨vpn, ldn, lrn⟩ := okj.at_ n (by omega)
        have tk : (cs j).take (n + 1) = (cs j).take n ++ [c] := by rw [List.take_add_one, hc]; rfl
        refine ⟨rfl, ?_⟩
        show (tMeth CK "say" (spSay K CR CP CQ CK) [] E0 (tVar 10) (tCons (tVar 9) tNil)) _ Hb _
        refine say_step (d := d3) (q := q') (c := c) dq' vpn (okj.ok n c hc) (by omega) (Evl.ev_var rfl) (Evl.ev_var rfl) fun q2 Hc hq kc dc => ?_
        obtain ⟨dx3, p3, h3, _, dxq, pq, ddq, xq, hq3, _⟩ := id dq'
        have nd' : Dn ≠ d3 := ne_of hD1 h3 fun z => nomatch z
        have nq2 : Dn ≠ q' := ne_of hD1 hq3 fun z => nomatch z
        have hDc := kc _ _ nd' nq2 hD1
        refine ⟨_, hDc, Nat.lt_of_lt_of_le (show ((runC ((cs j).take n)).2.map V.str).length < 100000 by rw [List.length_map]; omega) (by decide), nl, ?_, ?_, q2, ?_, ?_⟩
        · intro y o hy
          rw [upd_ne (ne_of_none hy nDn0)]
          exact kc y o (ne_of_none hy nd3) (ne_of_none hy nq') (x1 _ _ hy)
        · rw [upd_same, tk, runC_snoc, List.map_append]
          rfl
        · rcases hq with z | z
          · rw [z]
            exact nq'
          · exact Evl.fresh_back x1 z
        · rw [tk, runC_snoc]
          exact Kl.desk (fun y o nn hy => by
            rw [upd_ne fun z => nn _ (Option.some.inj ((z ▸ hy).symm.trans hDc))]
            exact hy) dc
      · rintro Ha ⟨_, x1, hD1, q', nq', dq'⟩
        rw [List.length_map, List.take_length] at hD1 dq'
        have Ra := R.ext x1
        refine ⟨_, rfl, _, rfl, To, _, (j : Int), V.ref (t j), rfl, rfl, Evl.sq_of Ra.hT, atI_nat (two_at (fun z => V.ref (t z)) hj2), ?_⟩
        have pln := okj.plain (cs j).length (Nat.le_refl _)
        rw [List.take_length] at pln
        refine (rv_neSame (K := K) (d := .list ((runC (cs j)).2.map PyData.str)) (n := 1) (fun H2 e2 => .lst (Evl.sq_of (e2 _ _ hD1)) (dp_strs _)) (fun H2 e2 => .lst (Evl.sq_of (e2 _ _ (Ra.ht j hj2))) (dp_strs _)) (GD.lstr pln) (by decide)) Ha (Ex.refl _) _ fun Hb eb => ⟨false, rfl, iteF ?_⟩
        have Rb := Ra.ext eb
        have db := dq'.ext eb
        have dj := Rb.de j hj2 (Nat.le_refl _)
        have e3 : Ev (tVar 10) _ Hb (.ref d3) := Evl.ev_var (σ := [some (V.ref sa), some (V.int (i0 : Int)), some (V.ref a), some (V.ref Ds), some (V.ref Sn), some (V.ref He), some (V.ref To), b7, some (V.int (j : Int)), b9, some (V.ref d3)]) rfl
        have eD : ∀ G, Rst K CR CP CQ CK H1 Ds He To d h t q cs (j + 1) G → Ev (tOp (rIxL K) (tVar 3) (tVar 8)) [some (V.ref sa), some (V.int (i0 : Int)), some (V.ref a), some (V.ref Ds), some (V.ref Sn), some (V.ref He), some (V.ref To), b7, some (V.int (j : Int)), b9, some (V.ref d3)] G (.ref (d j)) := fun G RG => ev_two (K := K) (i := j) (x := 3) (y := 8) (f := fun z => V.ref (d z)) rfl rfl hj2 RG.hD
        refine Evl.q_when (b := false) (Evl.et_is (Evl.et_or (a := false) (b := false) (Evl.et_test (ev_sentNe I (by omega) db.post (ev_postOf TK db e3) dj.post (ev_postOf TK dj (eD _ Rb.step)))) (fun _ => Evl.et_test (Evl.ev_is (Evl.ev_op (x := .int ((runC (cs j)).1.ds.length : Int)) (ev_lenQ db.post (ev_postOf TK db e3) (by omega)) (ev_lenQ dj.post (ev_postOf TK dj (eD _ Rb.step)) (by omega)) (Evl.rv_ne rfl)) (by rw [decide_eq_true rfl]; rfl)))) rfl) (fun z => nomatch z) (fun _ Hc ec => ?_)
        -- a new post
        have Rc := Rb.ext ec
        have dcj := dj.ext ec
        refine when_goK (or_goK (test_goK (op_goK ?_)))
        refine say_step (d := d j) (q := q j) (c := .post 2) dcj vp ⟨by decide, by decide⟩ (by omega) (eD _ Rc.step) (by rw [post_text]; exact Evl.ev_c) fun q2 Hd hq kd dd => ?_
        have Rd := Rc.said hj2 W.nd W.nq bB4 dcj kd
        have nq2 : ∀ k, k < 2 → j + 1 ≤ k → q k ≠ q2 := fun k hk lk => by
          rcases hq with z | z
          · rw [z]
            exact two_ne W.nq hj2 hk (by omega)
          · intro y
            obtain ⟨_, _, _, _, _, _, _, _, g, _⟩ := Rc.de k hk (by omega)
            rw [y, z] at g
            cases g
        have nB2 : H1 q2 = none := by
          rcases hq with z | z
          · rw [z]
            exact (bB4 j hj2).2.1
          · exact Evl.fresh_back Rc.ex z
        refine c_goK ?_
        refine (Evl.rv_ne (x := .str "done") (y := .str "done") rfl) Hd (Ex.refl _) _ fun He' ee => ⟨false, by rw [decide_eq_true rfl]; rfl, iteF (test_goK ?_)⟩
        have Re := Rd.ext ee
        have de := dd.ext ee
        refine (ev_sentNew de.post (ev_postOf TK de (eD _ Re))) He' (Ex.refl _) _ fun Hf ef => ⟨false, rfl, iteF ?_⟩
        have Rf := Re.ext ef
        have df := de.ext ef
        -- nothing to take back
        refine if_goK (or_goK (test_goK (op_goK ?_)))
        refine say_goE (cm := .undo) df (eD _ Rf) Evl.ev_c cmd_undo fun W9 Hg eg hW9 => ?_
        refine ⟨d j, q2, W9, _, rfl, df.ext eg, Nat.zero_le _, fun Hh kh dh => ?_⟩
        have Rh := (Rf.ext eg).said2 hj2 W.nd nq2 bB4 nB2 (df.ext eg) (kp_q kh)
        refine c_goK ?_
        refine (Evl.rv_ne (x := .str "nothing") (y := .str "nothing") rfl) Hh (Ex.refl _) _ fun Hi ei => ⟨false, by rw [decide_eq_true rfl]; rfl, iteF (test_goK (op_goK ?_))⟩
        have Ri := Rh.ext ei
        have di := dh.ext ei
        refine say_step (d := d j) (q := q2) (c := .shows "ann" 1) di (Pv.start I.gd I.hz ⟨by show 0 < 2; decide, by show 2 ≤ 4; decide⟩) ⟨by decide, by show 1 < 2; decide⟩ (Nat.zero_le _) (eD _ Ri) (by rw [shows_text]; exact Evl.ev_c) fun q4 Hj hq4 kj dj4 => ?_
        have Rj := Ri.said2 hj2 W.nd nq2 bB4 nB2 di kj
        refine c_goK ?_
        exact (Evl.rv_ne (x := .str "nothing") (y := .str "nothing") rfl) Hj (Ex.refl _) _ fun Hk ek => ⟨false, by rw [decide_eq_true rfl]; rfl, iteF ⟨_, _, _, rfl, Rj.ext ek⟩⟩
end
end Ov


namespace Ov
open PySem PySem.Spec PyProof.Rows L2
theorem tupAtB_ok {K : PySem.W.Frag} {a : Addr} {vs : List V} (h : tupAtB K a vs = true) (H : Hp) : SqT K H a vs := by
  unfold tupAtB at h
  cases q : K.lookup a with
  | none =>
    rw [q] at h
    cases h
  | some o =>
    obtain ⟨oc, od, dt, osl⟩ := o
    rw [q] at h
    cases oc with
    | type c =>
      cases dt with
      | seq its n =>
        obtain ⟨h1, h2⟩ := Bool.and_eq_true_iff.mp (show (decide (c = "tuple") && (decide (its.size ≤ sizeLine) && He.relAll vs its.toList)) = true from h)
        obtain ⟨h3, h4⟩ := Bool.and_eq_true_iff.mp h2
        exact .inr ⟨_, its, n, q, congrArg Value.type (of_decide_eq_true h1), rfl, of_decide_eq_true h3, He.relAll_ok h4⟩
      | _ => cases h
    | _ => cases dt <;> cases h
theorem holdsB_ok {K : PySem.W.Frag} {w : World} (h : holdsB K = true) (d : He.dicW K (He.ga K "HOLDS") = some (He.keysIn w.params holdKeys)) (z : Str) (l : List Str) (e : holdsD.lookup z = some l) : ∃ q, KDct K w (He.ga K "HOLDS") z (.ref q) ∧ ∀ H, SqT K H q (l.map V.str) := by
  obtain ⟨es, n, D⟩ := He.dicW_ok d
  have h1 : holdB K z l = true := List.all_eq_true.mp h (z, l) (PySem.mem_of_lookup e)
  unfold holdB at h1
  cases q : PySem.W.nsIn K (He.ga K "HOLDS") z with
  | none =>
    rw [q] at h1
    cases h1
  | some r =>
    rw [q] at h1
    cases r with
    | none => cases h1
    | some u =>
      cases u with
      | ref a => exact ⟨a, ⟨es, n, .ref a, D.at_, D.lit, q, rfl⟩, fun H => tupAtB_ok h1 H⟩
      | _ => cases h1
theorem propB_ok {K : PySem.W.Frag} {C : Addr} {m : Str} (h : propB K C m = true) : PropOf K C m (He.ma K C m) (He5.wf K C "property" m) := by
  unfold propB at h
  obtain ⟨h1, h⟩ := Bool.and_eq_true_iff.mp h
  obtain ⟨h2, h⟩ := Bool.and_eq_true_iff.mp h
  obtain ⟨h3, h4⟩ := Bool.and_eq_true_iff.mp h
  refine ⟨?_, He.eqO_ok h2, of_decide_eq_true h3, ?_⟩
  · cases e : PySem.W.findIn K (.ref C) m with
    | none =>
      rw [e] at h1
      cases h1
    | some r =>
      rw [e] at h1
      cases r with
      | none => cases h1
      | some u =>
        cases u with
        | ref p =>
          have := of_decide_eq_true h1
          rw [this]
        | _ => cases h1
  · unfold He5.wf
    cases e : PySem.W.recIn K (He.ma K C m) "property" with
    | none =>
      rw [e] at h4
      cases h4
    | some r =>
      rw [e] at h4
      cases r with
      | nil => cases h4
      | cons u rest =>
        cases u with
        | ref p => exact ⟨rest, rfl⟩
        | _ => cases h4
theorem emB_ok {K : PySem.W.Frag} {a : Addr} (h : emB K a = true) (H : Hp) : SqT K H a [] := by
  unfold emB at h
  split at h
  · rename_i q
    obtain ⟨h1, h2⟩ := Bool.and_eq_true_iff.mp h
    have e := of_decide_eq_true h2
    subst e
    exact .inr ⟨_, _, _, q, congrArg Value.type (of_decide_eq_true h1), rfl, Nat.zero_le _, .nil⟩
  · cases h
theorem formsB_ok {K : PySem.W.Frag} {w : World} (h : formsB K = true) (d : He.dicW K (He.ga K "FORMS") = some (He.keysIn w.params formKeys)) (z : Str) (l : List Str) (e : formsD.lookup z = some l) : ∃ q, KDct K w (He.ga K "FORMS") z (.ref q) ∧ ∀ H, SqT K H q (l.map V.str) := by
  obtain ⟨es, n, D⟩ := He.dicW_ok d
  have h1 : formB K z l = true := List.all_eq_true.mp h (z, l) (PySem.mem_of_lookup e)
  unfold formB at h1
  cases q : PySem.W.nsIn K (He.ga K "FORMS") z with
  | none =>
    rw [q] at h1
    cases h1
  | some r =>
    rw [q] at h1
    cases r with
    | none => cases h1
    | some u =>
      cases u with
      | ref a => exact ⟨a, ⟨es, n, .ref a, D.at_, D.lit, q, rfl⟩, fun H => tupAtB_ok h1 H⟩
      | _ => cases h1
theorem actionsB_ok {K : PySem.W.Frag} {w : World} (h : actionsB K = true) (d : He.dicW K (He.ga K "ACTIONS") = some (He.keysIn w.params formKeys)) (x y : Str) (e : (x, y) ∈ actsD) : KDct K w (He.ga K "ACTIONS") x (.ref (He.ga K y)) := by
  obtain ⟨es, n, D⟩ := He.dicW_ok d
  have h1 : actB K x y = true := List.all_eq_true.mp h (x, y) e
  unfold actB at h1
  cases q : PySem.W.nsIn K (He.ga K "ACTIONS") x with
  | none =>
    rw [q] at h1
    cases h1
  | some r =>
    rw [q] at h1
    cases r with
    | none => cases h1
    | some u =>
      cases u with
      | ref a =>
        have ea := of_decide_eq_true h1
        rw [ea] at q
        exact ⟨es, n, _, D.at_, D.lit, q, rfl⟩
      | _ => cases h1
section
variable {w : World} {K : PySem.W.Frag} {h : Heap} {mg : Str → Option Value}
theorem df_law_deal (X : K.In h) (G : h.Ns mainGlobals mg) (c : Says w K) : ∃ fd, Df K mg "_law_deal" sDeal ["_law_script", "_law_base"] (He.ga K "_law_deal") fd := by
  obtain ⟨fd, F⟩ := c.d.def_ 0 (d := dA "_law_deal" sDeal) rfl
  exact ⟨fd, He5.fun_of F, He.glo_ok X G (c.d.fact 0 (f := .glo "_law_deal") rfl), FunD.bindsN (ps := ["_law_script", "_law_base"]) F fun _ _ _ _ _ _ us hl => match us, hl with | [_, _], _ => rfl⟩
theorem df_law_draw (X : K.In h) (G : h.Ns mainGlobals mg) (c : Says w K) : ∃ fd, Df K mg "_law_draw" sDraw ["_law_deal_here", "_law_many"] (He.ga K "_law_draw") fd := by
  obtain ⟨fd, F⟩ := c.d.def_ 1 (d := dA "_law_draw" sDraw) rfl
  exact ⟨fd, He5.fun_of F, He.glo_ok X G (c.d.fact 1 (f := .glo "_law_draw") rfl), FunD.bindsN (ps := ["_law_deal_here", "_law_many"]) F fun _ _ _ _ _ _ us hl => match us, hl with | [_, _], _ => rfl⟩
theorem df_law_pick (X : K.In h) (G : h.Ns mainGlobals mg) (c : Says w K) : ∃ fd, Df K mg "_law_pick" sPick ["_law_deal_here", "_law_some"] (He.ga K "_law_pick") fd := by
  obtain ⟨fd, F⟩ := c.d.def_ 2 (d := dA "_law_pick" sPick) rfl
  exact ⟨fd, He5.fun_of F, He.glo_ok X G (c.d.fact 2 (f := .glo "_law_pick") rfl), FunD.bindsN (ps := ["_law_deal_here", "_law_some"]) F fun _ _ _ _ _ _ us hl => match us, hl with | [_, _], _ => rfl⟩
theorem df_law_mixed (X : K.In h) (G : h.Ns mainGlobals mg) (c : Says w K) : ∃ fd, Df K mg "_law_mixed" sMixed ["_law_deal_here", "_law_some"] (He.ga K "_law_mixed") fd := by
  obtain ⟨fd, F⟩ := c.d.def_ 3 (d := dA "_law_mixed" sMixed) rfl
  exact ⟨fd, He5.fun_of F, He.glo_ok X G (c.d.fact 3 (f := .glo "_law_mixed") rfl), FunD.bindsN (ps := ["_law_deal_here", "_law_some"]) F fun _ _ _ _ _ _ us hl => match us, hl with | [_, _], _ => rfl⟩
theorem df_law_tests_of (X : K.In h) (G : h.Ns mainGlobals mg) (c : Says w K) : ∃ fd, Df K mg "_law_tests_of" sTestsOf ["_law_kind"] (He.ga K "_law_tests_of") fd := by
  obtain ⟨fd, F⟩ := c.d.def_ 4 (d := dA "_law_tests_of" sTestsOf) rfl
  exact ⟨fd, He5.fun_of F, He.glo_ok X G (c.d.fact 4 (f := .glo "_law_tests_of") rfl), FunD.bindsN (ps := ["_law_kind"]) F fun _ _ _ _ _ _ us hl => match us, hl with | [_], _ => rfl⟩
theorem df_law_deeds_of (X : K.In h) (G : h.Ns mainGlobals mg) (c : Says w K) : ∃ fd, Df K mg "_law_deeds_of" sLawDeedsOf ["_law_kind"] (He.ga K "_law_deeds_of") fd := by
  obtain ⟨fd, F⟩ := c.d.def_ 5 (d := dA "_law_deeds_of" sLawDeedsOf) rfl
  exact ⟨fd, He5.fun_of F, He.glo_ok X G (c.d.fact 5 (f := .glo "_law_deeds_of") rfl), FunD.bindsN (ps := ["_law_kind"]) F fun _ _ _ _ _ _ us hl => match us, hl with | [_], _ => rfl⟩
theorem df_law_any_rule (X : K.In h) (G : h.Ns mainGlobals mg) (c : Says w K) : ∃ fd, Df K mg "_law_any_rule" sAnyRule ["_law_deal_here", "_law_most"] (He.ga K "_law_any_rule") fd := by
  obtain ⟨fd, F⟩ := c.d.def_ 6 (d := dA "_law_any_rule" sAnyRule) rfl
  exact ⟨fd, He5.fun_of F, He.glo_ok X G (c.d.fact 6 (f := .glo "_law_any_rule") rfl), FunD.bindsN (ps := ["_law_deal_here", "_law_most"]) F fun _ _ _ _ _ _ us hl => match us, hl with | [_, _], _ => rfl⟩
theorem df_law_usual_rules (X : K.In h) (G : h.Ns mainGlobals mg) (c : Says w K) : ∃ fd, Df K mg "_law_usual_rules" sUsualRules ["_law_deal_here"] (He.ga K "_law_usual_rules") fd := by
  obtain ⟨fd, F⟩ := c.d.def_ 7 (d := dA "_law_usual_rules" sUsualRules) rfl
  exact ⟨fd, He5.fun_of F, He.glo_ok X G (c.d.fact 7 (f := .glo "_law_usual_rules") rfl), FunD.bindsN (ps := ["_law_deal_here"]) F fun _ _ _ _ _ _ us hl => match us, hl with | [_], _ => rfl⟩
theorem df_law_raised (X : K.In h) (G : h.Ns mainGlobals mg) (c : Says w K) : ∃ fd, Df K mg "_law_raised" sRaised ["_law_deal_here"] (He.ga K "_law_raised") fd := by
  obtain ⟨fd, F⟩ := c.d.def_ 8 (d := dA "_law_raised" sRaised) rfl
  exact ⟨fd, He5.fun_of F, He.glo_ok X G (c.d.fact 8 (f := .glo "_law_raised") rfl), FunD.bindsN (ps := ["_law_deal_here"]) F fun _ _ _ _ _ _ us hl => match us, hl with | [_], _ => rfl⟩
theorem df_law_plan (X : K.In h) (G : h.Ns mainGlobals mg) (c : Says w K) : ∃ fd, Df K mg "_law_plan" sPlan ["_law_deal_here", "_law_most"] (He.ga K "_law_plan") fd := by
  obtain ⟨fd, F⟩ := c.d.def_ 9 (d := dA "_law_plan" sPlan) rfl
  exact ⟨fd, He5.fun_of F, He.glo_ok X G (c.d.fact 9 (f := .glo "_law_plan") rfl), FunD.bindsN (ps := ["_law_deal_here", "_law_most"]) F fun _ _ _ _ _ _ us hl => match us, hl with | [_, _], _ => rfl⟩
theorem df_law_rule_text (X : K.In h) (G : h.Ns mainGlobals mg) (c : Says w K) : ∃ fd, Df K mg "_law_rule_text" sRuleText ["_law_rule"] (He.ga K "_law_rule_text") fd := by
  obtain ⟨fd, F⟩ := c.d.def_ 10 (d := dA "_law_rule_text" sRuleText) rfl
  exact ⟨fd, He5.fun_of F, He.glo_ok X G (c.d.fact 10 (f := .glo "_law_rule_text") rfl), FunD.bindsN (ps := ["_law_rule"]) F fun _ _ _ _ _ _ us hl => match us, hl with | [_], _ => rfl⟩
theorem df_law_text (X : K.In h) (G : h.Ns mainGlobals mg) (c : Says w K) : ∃ fd, Df K mg "_law_text" sText ["_law_drawn"] (He.ga K "_law_text") fd := by
  obtain ⟨fd, F⟩ := c.d.def_ 11 (d := dA "_law_text" sText) rfl
  exact ⟨fd, He5.fun_of F, He.glo_ok X G (c.d.fact 11 (f := .glo "_law_text") rfl), FunD.bindsN (ps := ["_law_drawn"]) F fun _ _ _ _ _ _ us hl => match us, hl with | [_], _ => rfl⟩
theorem df_law_command (X : K.In h) (G : h.Ns mainGlobals mg) (c : Says w K) : ∃ fd, Df K mg "_law_command" sCommand ["_law_deal_here", "_law_sent"] (He.ga K "_law_command") fd := by
  obtain ⟨fd, F⟩ := c.d.def_ 12 (d := dA "_law_command" sCommand) rfl
  exact ⟨fd, He5.fun_of F, He.glo_ok X G (c.d.fact 12 (f := .glo "_law_command") rfl), FunD.bindsN (ps := ["_law_deal_here", "_law_sent"]) F fun _ _ _ _ _ _ us hl => match us, hl with | [_, _], _ => rfl⟩
theorem df_is_sequence (X : K.In h) (G : h.Ns mainGlobals mg) (c : Says w K) : ∃ fd, Df K mg "is_sequence" sIsSequence ["value"] (He.ga K "is_sequence") fd := by
  obtain ⟨fd, F⟩ := c.d.def_ 14 (d := dA "is_sequence" sIsSequence) rfl
  exact ⟨fd, He5.fun_of F, He.glo_ok X G (c.d.fact 14 (f := .glo "is_sequence") rfl), FunD.bindsN (ps := ["value"]) F fun _ _ _ _ _ _ us hl => match us, hl with | [_], _ => rfl⟩
theorem df_is_kind (X : K.In h) (G : h.Ns mainGlobals mg) (c : Says w K) : ∃ fd, Df K mg "is_kind" sIsKind ["value"] (He.ga K "is_kind") fd := by
  obtain ⟨fd, F⟩ := c.d.def_ 15 (d := dA "is_kind" sIsKind) rfl
  exact ⟨fd, He5.fun_of F, He.glo_ok X G (c.d.fact 15 (f := .glo "is_kind") rfl), FunD.bindsN (ps := ["value"]) F fun _ _ _ _ _ _ us hl => match us, hl with | [_], _ => rfl⟩
theorem df_is_test (X : K.In h) (G : h.Ns mainGlobals mg) (c : Says w K) : ∃ fd, Df K mg "is_test" sIsTest ["kind", "value"] (He.ga K "is_test") fd := by
  obtain ⟨fd, F⟩ := c.d.def_ 16 (d := dA "is_test" sIsTest) rfl
  exact ⟨fd, He5.fun_of F, He.glo_ok X G (c.d.fact 16 (f := .glo "is_test") rfl), FunD.bindsN (ps := ["kind", "value"]) F fun _ _ _ _ _ _ us hl => match us, hl with | [_, _], _ => rfl⟩
theorem df_is_deed (X : K.In h) (G : h.Ns mainGlobals mg) (c : Says w K) : ∃ fd, Df K mg "is_deed" sIsDeed ["kind", "value"] (He.ga K "is_deed") fd := by
  obtain ⟨fd, F⟩ := c.d.def_ 17 (d := dA "is_deed" sIsDeed) rfl
  exact ⟨fd, He5.fun_of F, He.glo_ok X G (c.d.fact 17 (f := .glo "is_deed") rfl), FunD.bindsN (ps := ["kind", "value"]) F fun _ _ _ _ _ _ us hl => match us, hl with | [_, _], _ => rfl⟩
theorem df_split_part (X : K.In h) (G : h.Ns mainGlobals mg) (c : Says w K) : ∃ fd, Df K mg "split_part" sSplitPart ["sign", "text", "between"] (He.ga K "split_part") fd := by
  obtain ⟨fd, F⟩ := c.d.def_ 18 (d := dA "split_part" sSplitPart) rfl
  exact ⟨fd, He5.fun_of F, He.glo_ok X G (c.d.fact 18 (f := .glo "split_part") rfl), FunD.bindsN (ps := ["sign", "text", "between"]) F fun _ _ _ _ _ _ us hl => match us, hl with | [_, _, _], _ => rfl⟩
theorem df_are_raises (X : K.In h) (G : h.Ns mainGlobals mg) (c : Says w K) : ∃ fd, Df K mg "are_raises" sAreRaises ["value"] (He.ga K "are_raises") fd := by
  obtain ⟨fd, F⟩ := c.d.def_ 19 (d := dA "are_raises" sAreRaises) rfl
  exact ⟨fd, He5.fun_of F, He.glo_ok X G (c.d.fact 19 (f := .glo "are_raises") rfl), FunD.bindsN (ps := ["value"]) F fun _ _ _ _ _ _ us hl => match us, hl with | [_], _ => rfl⟩
theorem df_are_rules (X : K.In h) (G : h.Ns mainGlobals mg) (c : Says w K) : ∃ fd, Df K mg "are_rules" sAreRules ["value"] (He.ga K "are_rules") fd := by
  obtain ⟨fd, F⟩ := c.d.def_ 20 (d := dA "are_rules" sAreRules) rfl
  exact ⟨fd, He5.fun_of F, He.glo_ok X G (c.d.fact 20 (f := .glo "are_rules") rfl), FunD.bindsN (ps := ["value"]) F fun _ _ _ _ _ _ us hl => match us, hl with | [_], _ => rfl⟩
theorem df_read_rule (X : K.In h) (G : h.Ns mainGlobals mg) (c : Says w K) : ∃ fd, Df K mg "read_rule" sReadRule ["line", "at"] (He.ga K "read_rule") fd := by
  obtain ⟨fd, F⟩ := c.d.def_ 21 (d := dA "read_rule" sReadRule) rfl
  exact ⟨fd, He5.fun_of F, He.glo_ok X G (c.d.fact 21 (f := .glo "read_rule") rfl), FunD.bindsN (ps := ["line", "at"]) F fun _ _ _ _ _ _ us hl => match us, hl with | [_, _], _ => rfl⟩
theorem df_read_place (X : K.In h) (G : h.Ns mainGlobals mg) (c : Says w K) : ∃ fd, Df K mg "read_place" sReadPlace ["value", "word", "many"] (He.ga K "read_place") fd := by
  obtain ⟨fd, F⟩ := c.d.def_ 22 (d := dA "read_place" sReadPlace) rfl
  exact ⟨fd, He5.fun_of F, He.glo_ok X G (c.d.fact 22 (f := .glo "read_place") rfl), FunD.bindsN (ps := ["value", "word", "many"]) F fun _ _ _ _ _ _ us hl => match us, hl with | [_, _, _], _ => rfl⟩
theorem df_relation (X : K.In h) (G : h.Ns mainGlobals mg) (c : Says w K) : ∃ fd, Df K mg "relation" sRelation ["letter", "part"] (He.ga K "relation") fd := by
  obtain ⟨fd, F⟩ := c.d.def_ 23 (d := dA "relation" sRelation) rfl
  exact ⟨fd, He5.fun_of F, He.glo_ok X G (c.d.fact 23 (f := .glo "relation") rfl), FunD.bindsN (ps := ["letter", "part"]) F fun _ _ _ _ _ _ us hl => match us, hl with | [_, _], _ => rfl⟩
theorem df_holds (X : K.In h) (G : h.Ns mainGlobals mg) (c : Says w K) : ∃ fd, Df K mg "holds" sHolds ["test", "to_whole", "to_own"] (He.ga K "holds") fd := by
  obtain ⟨fd, F⟩ := c.d.def_ 24 (d := dA "holds" sHolds) rfl
  exact ⟨fd, He5.fun_of F, He.glo_ok X G (c.d.fact 24 (f := .glo "holds") rfl), FunD.bindsN (ps := ["test", "to_whole", "to_own"]) F fun _ _ _ _ _ _ us hl => match us, hl with | [_, _, _], _ => rfl⟩
theorem df_letter_rule (X : K.In h) (G : h.Ns mainGlobals mg) (c : Says w K) : ∃ fd, Df K mg "letter_rule" sLetterRule ["plan", "kind", "to_whole", "to_own"] (He.ga K "letter_rule") fd := by
  obtain ⟨fd, F⟩ := c.d.def_ 25 (d := dA "letter_rule" sLetterRule) rfl
  exact ⟨fd, He5.fun_of F, He.glo_ok X G (c.d.fact 25 (f := .glo "letter_rule") rfl), FunD.bindsN (ps := ["plan", "kind", "to_whole", "to_own"]) F fun _ _ _ _ _ _ us hl => match us, hl with | [_, _, _, _], _ => rfl⟩
theorem df_answer_rule (X : K.In h) (G : h.Ns mainGlobals mg) (c : Says w K) : ∃ fd, Df K mg "answer_rule" sAnswerRule ["plan", "level"] (He.ga K "answer_rule") fd := by
  obtain ⟨fd, F⟩ := c.d.def_ 26 (d := dA "answer_rule" sAnswerRule) rfl
  exact ⟨fd, He5.fun_of F, He.glo_ok X G (c.d.fact 26 (f := .glo "answer_rule") rfl), FunD.bindsN (ps := ["plan", "level"]) F fun _ _ _ _ _ _ us hl => match us, hl with | [_, _], _ => rfl⟩
theorem df_deeds_of (X : K.In h) (G : h.Ns mainGlobals mg) (c : Says w K) : ∃ fd, Df K mg "deeds_of" sDeedsOf ["plan", "at"] (He.ga K "deeds_of") fd := by
  obtain ⟨fd, F⟩ := c.d.def_ 27 (d := dA "deeds_of" sDeedsOf) rfl
  exact ⟨fd, He5.fun_of F, He.glo_ok X G (c.d.fact 27 (f := .glo "deeds_of") rfl), FunD.bindsN (ps := ["plan", "at"]) F fun _ _ _ _ _ _ us hl => match us, hl with | [_, _], _ => rfl⟩
theorem df_is_whole_kind (X : K.In h) (G : h.Ns mainGlobals mg) (c : Says w K) : ∃ fd, Df K mg "is_whole_kind" sIsWholeKind ["kind"] (He.ga K "is_whole_kind") fd := by
  obtain ⟨fd, F⟩ := c.d.def_ 28 (d := dA "is_whole_kind" sIsWholeKind) rfl
  exact ⟨fd, He5.fun_of F, He.glo_ok X G (c.d.fact 28 (f := .glo "is_whole_kind") rfl), FunD.bindsN (ps := ["kind"]) F fun _ _ _ _ _ _ us hl => match us, hl with | [_], _ => rfl⟩
theorem df_effect (X : K.In h) (G : h.Ns mainGlobals mg) (c : Says w K) : ∃ fd, Df K mg "effect" sEffect ["kind", "deeds"] (He.ga K "effect") fd := by
  obtain ⟨fd, F⟩ := c.d.def_ 29 (d := dA "effect" sEffect) rfl
  exact ⟨fd, He5.fun_of F, He.glo_ok X G (c.d.fact 29 (f := .glo "effect") rfl), FunD.bindsN (ps := ["kind", "deeds"]) F fun _ _ _ _ _ _ us hl => match us, hl with | [_, _], _ => rfl⟩
theorem df_letter_to_come (X : K.In h) (G : h.Ns mainGlobals mg) (c : Says w K) : ∃ fd, Df K mg "letter_to_come" sLetterToCome ["course", "event"] (He.ga K "letter_to_come") fd := by
  obtain ⟨fd, F⟩ := c.d.def_ 30 (d := dA "letter_to_come" sLetterToCome) rfl
  exact ⟨fd, He5.fun_of F, He.glo_ok X G (c.d.fact 30 (f := .glo "letter_to_come") rfl), FunD.bindsN (ps := ["course", "event"]) F fun _ _ _ _ _ _ us hl => match us, hl with | [_, _], _ => rfl⟩
theorem df_can_answer (X : K.In h) (G : h.Ns mainGlobals mg) (c : Says w K) : ∃ fd, Df K mg "can_answer" sCanAnswer ["course"] (He.ga K "can_answer") fd := by
  obtain ⟨fd, F⟩ := c.d.def_ 31 (d := dA "can_answer" sCanAnswer) rfl
  exact ⟨fd, He5.fun_of F, He.glo_ok X G (c.d.fact 31 (f := .glo "can_answer") rfl), FunD.bindsN (ps := ["course"]) F fun _ _ _ _ _ _ us hl => match us, hl with | [_], _ => rfl⟩
theorem df_go_on (X : K.In h) (G : h.Ns mainGlobals mg) (c : Says w K) : ∃ fd, Df K mg "go_on" sGoOn ["course", "event", "at"] (He.ga K "go_on") fd := by
  obtain ⟨fd, F⟩ := c.d.def_ 32 (d := dA "go_on" sGoOn) rfl
  exact ⟨fd, He5.fun_of F, He.glo_ok X G (c.d.fact 32 (f := .glo "go_on") rfl), FunD.bindsN (ps := ["course", "event", "at"]) F fun _ _ _ _ _ _ us hl => match us, hl with | [_, _, _], _ => rfl⟩
theorem df_play (X : K.In h) (G : h.Ns mainGlobals mg) (c : Says w K) : ∃ fd, Df K mg "play" sPlay ["plan", "weaving"] (He.ga K "play") fd := by
  obtain ⟨fd, F⟩ := c.d.def_ 33 (d := dA "play" sPlay) rfl
  exact ⟨fd, He5.fun_of F, He.glo_ok X G (c.d.fact 33 (f := .glo "play") rfl), FunD.bindsN (ps := ["plan", "weaving"]) F fun _ _ _ _ _ _ us hl => match us, hl with | [_, _], _ => rfl⟩
theorem df_is_integer (X : K.In h) (G : h.Ns mainGlobals mg) (c : Says w K) : ∃ fd, Df K mg "is_integer" sIsInteger ["value"] (He.ga K "is_integer") fd := by
  obtain ⟨fd, F⟩ := c.d.def_ 34 (d := dA "is_integer" sIsInteger) rfl
  exact ⟨fd, He5.fun_of F, He.glo_ok X G (c.d.fact 34 (f := .glo "is_integer") rfl), FunD.bindsN (ps := ["value"]) F fun _ _ _ _ _ _ us hl => match us, hl with | [_], _ => rfl⟩
theorem df_is_place (X : K.In h) (G : h.Ns mainGlobals mg) (c : Says w K) : ∃ fd, Df K mg "is_place" sIsPlace ["value", "many"] (He.ga K "is_place") fd := by
  obtain ⟨fd, F⟩ := c.d.def_ 35 (d := dA "is_place" sIsPlace) rfl
  exact ⟨fd, He5.fun_of F, He.glo_ok X G (c.d.fact 35 (f := .glo "is_place") rfl), FunD.bindsN (ps := ["value", "many"]) F fun _ _ _ _ _ _ us hl => match us, hl with | [_, _], _ => rfl⟩
theorem df_is_name (X : K.In h) (G : h.Ns mainGlobals mg) (c : Says w K) : ∃ fd, Df K mg "is_name" sIsName ["value"] (He.ga K "is_name") fd := by
  obtain ⟨fd, F⟩ := c.d.def_ 36 (d := dA "is_name" sIsName) rfl
  exact ⟨fd, He5.fun_of F, He.glo_ok X G (c.d.fact 36 (f := .glo "is_name") rfl), FunD.bindsN (ps := ["value"]) F fun _ _ _ _ _ _ us hl => match us, hl with | [_], _ => rfl⟩
theorem df_check_name (X : K.In h) (G : h.Ns mainGlobals mg) (c : Says w K) : ∃ fd, Df K mg "check_name" sCheckName ["value", "word"] (He.ga K "check_name") fd := by
  obtain ⟨fd, F⟩ := c.d.def_ 37 (d := dA "check_name" sCheckName) rfl
  exact ⟨fd, He5.fun_of F, He.glo_ok X G (c.d.fact 37 (f := .glo "check_name") rfl), FunD.bindsN (ps := ["value", "word"]) F fun _ _ _ _ _ _ us hl => match us, hl with | [_, _], _ => rfl⟩
theorem df_is_of (X : K.In h) (G : h.Ns mainGlobals mg) (c : Says w K) : ∃ fd, Df K mg "is_of" sIsOf ["word", "sort"] (He.ga K "is_of") fd := by
  obtain ⟨fd, F⟩ := c.d.def_ 38 (d := dA "is_of" sIsOf) rfl
  exact ⟨fd, He5.fun_of F, He.glo_ok X G (c.d.fact 38 (f := .glo "is_of") rfl), FunD.bindsN (ps := ["word", "sort"]) F fun _ _ _ _ _ _ us hl => match us, hl with | [_, _], _ => rfl⟩
theorem df_has_form (X : K.In h) (G : h.Ns mainGlobals mg) (c : Says w K) : ∃ fd, Df K mg "has_form" sHasForm ["words", "form"] (He.ga K "has_form") fd := by
  obtain ⟨fd, F⟩ := c.d.def_ 39 (d := dA "has_form" sHasForm) rfl
  exact ⟨fd, He5.fun_of F, He.glo_ok X G (c.d.fact 39 (f := .glo "has_form") rfl), FunD.bindsN (ps := ["words", "form"]) F fun _ _ _ _ _ _ us hl => match us, hl with | [_, _], _ => rfl⟩
theorem df_words_of (X : K.In h) (G : h.Ns mainGlobals mg) (c : Says w K) : ∃ fd, Df K mg "words_of" sWordsOf ["command"] (He.ga K "words_of") fd := by
  obtain ⟨fd, F⟩ := c.d.def_ 40 (d := dA "words_of" sWordsOf) rfl
  exact ⟨fd, He5.fun_of F, He.glo_ok X G (c.d.fact 40 (f := .glo "words_of") rfl), FunD.bindsN (ps := ["command"]) F fun _ _ _ _ _ _ us hl => match us, hl with | [_], _ => rfl⟩
theorem df_say_plan (X : K.In h) (G : h.Ns mainGlobals mg) (c : Says w K) : ∃ fd, Df K mg "say_plan" sSayPlan ["desk", "words"] (He.ga K "say_plan") fd := by
  obtain ⟨fd, F⟩ := c.d.def_ 41 (d := dA "say_plan" sSayPlan) rfl
  exact ⟨fd, He5.fun_of F, He.glo_ok X G (c.d.fact 41 (f := .glo "say_plan") rfl), FunD.bindsN (ps := ["desk", "words"]) F fun _ _ _ _ _ _ us hl => match us, hl with | [_, _], _ => rfl⟩
theorem df_say_post (X : K.In h) (G : h.Ns mainGlobals mg) (c : Says w K) : ∃ fd, Df K mg "say_post" sSayPost ["desk", "words"] (He.ga K "say_post") fd := by
  obtain ⟨fd, F⟩ := c.d.def_ 42 (d := dA "say_post" sSayPost) rfl
  exact ⟨fd, He5.fun_of F, He.glo_ok X G (c.d.fact 42 (f := .glo "say_post") rfl), FunD.bindsN (ps := ["desk", "words"]) F fun _ _ _ _ _ _ us hl => match us, hl with | [_, _], _ => rfl⟩
theorem df_say_send (X : K.In h) (G : h.Ns mainGlobals mg) (c : Says w K) : ∃ fd, Df K mg "say_send" sSaySend ["desk", "words"] (He.ga K "say_send") fd := by
  obtain ⟨fd, F⟩ := c.d.def_ 43 (d := dA "say_send" sSaySend) rfl
  exact ⟨fd, He5.fun_of F, He.glo_ok X G (c.d.fact 43 (f := .glo "say_send") rfl), FunD.bindsN (ps := ["desk", "words"]) F fun _ _ _ _ _ _ us hl => match us, hl with | [_, _], _ => rfl⟩
theorem df_say_come (X : K.In h) (G : h.Ns mainGlobals mg) (c : Says w K) : ∃ fd, Df K mg "say_come" sSayCome ["desk", "words"] (He.ga K "say_come") fd := by
  obtain ⟨fd, F⟩ := c.d.def_ 44 (d := dA "say_come" sSayCome) rfl
  exact ⟨fd, He5.fun_of F, He.glo_ok X G (c.d.fact 44 (f := .glo "say_come") rfl), FunD.bindsN (ps := ["desk", "words"]) F fun _ _ _ _ _ _ us hl => match us, hl with | [_, _], _ => rfl⟩
theorem df_say_shows (X : K.In h) (G : h.Ns mainGlobals mg) (c : Says w K) : ∃ fd, Df K mg "say_shows" sSayShows ["desk", "words"] (He.ga K "say_shows") fd := by
  obtain ⟨fd, F⟩ := c.d.def_ 45 (d := dA "say_shows" sSayShows) rfl
  exact ⟨fd, He5.fun_of F, He.glo_ok X G (c.d.fact 45 (f := .glo "say_shows") rfl), FunD.bindsN (ps := ["desk", "words"]) F fun _ _ _ _ _ _ us hl => match us, hl with | [_, _], _ => rfl⟩
theorem df_say_undo (X : K.In h) (G : h.Ns mainGlobals mg) (c : Says w K) : ∃ fd, Df K mg "say_undo" sSayUndo ["desk", "_"] (He.ga K "say_undo") fd := by
  obtain ⟨fd, F⟩ := c.d.def_ 46 (d := dA "say_undo" sSayUndo) rfl
  exact ⟨fd, He5.fun_of F, He.glo_ok X G (c.d.fact 46 (f := .glo "say_undo") rfl), FunD.bindsN (ps := ["desk", "_"]) F fun _ _ _ _ _ _ us hl => match us, hl with | [_, _], _ => rfl⟩
theorem dm_Rule_init (c : Says w K) : ∃ fd, FunD K "__init__" "Rule.__init__" (defArgs sRuleInit) (defBody sRuleInit) (defScope sRuleInit) [V.ref (He.dflAt ("Rule", some "__init__") 0 K), V.ref (He.dflAt ("Rule", some "__init__") 1 K)] [] (He.ma K (He.ga K "Rule") "__init__") fd ∧ Binds K fd ["self", "kind", "tests", "deeds"] [] := by
  obtain ⟨fd, F⟩ := c.d.def_ 47 (d := dM "Rule" "__init__" "Rule.__init__" sRuleInit [.adr (He.dflAt ("Rule", some "__init__") 0), .adr (He.dflAt ("Rule", some "__init__") 1)]) rfl
  obtain ⟨ds, hv, hb⟩ := FunD.binds1 (ps := ["self", "kind", "tests", "deeds"]) F 4 2 (fun z => nomatch z) rfl fun _ _ _ _ _ _ _ us its h1 h2 => match us, its, h1, h2 with | [_, _, _, _], [_, _], _, _ => ⟨_, rfl, rfl⟩
  cases hv
  exact ⟨fd, F, hb⟩
theorem dm_Plan_init (c : Says w K) : ∃ fd, FunD K "__init__" "Plan.__init__" (defArgs sPlanInit) (defBody sPlanInit) (defScope sPlanInit) [V.ref (He.dflAt ("Plan", some "__init__") 0 K), V.ref (He.dflAt ("Plan", some "__init__") 1 K)] [] (He.ma K (He.ga K "Plan") "__init__") fd ∧ Binds K fd ["self", "raises", "rules"] [] := by
  obtain ⟨fd, F⟩ := c.d.def_ 48 (d := dM "Plan" "__init__" "Plan.__init__" sPlanInit [.adr (He.dflAt ("Plan", some "__init__") 0), .adr (He.dflAt ("Plan", some "__init__") 1)]) rfl
  obtain ⟨ds, hv, hb⟩ := FunD.binds1 (ps := ["self", "raises", "rules"]) F 3 2 (fun z => nomatch z) rfl fun _ _ _ _ _ _ _ us its h1 h2 => match us, its, h1, h2 with | [_, _, _], [_, _], _, _ => ⟨_, rfl, rfl⟩
  cases hv
  exact ⟨fd, F, hb⟩
theorem dm_Course_init (c : Says w K) : ∃ fd, Fun K "__init__" "Course.__init__" sCourseInit (He.ma K (He.ga K "Course") "__init__") fd ∧ Binds K fd ["self", "plan"] [] := by
  obtain ⟨fd, F⟩ := c.d.def_ 49 (d := dM "Course" "__init__" "Course.__init__" sCourseInit []) rfl
  exact ⟨fd, He5.fun_of F, FunD.bindsN (ps := ["self", "plan"]) F fun _ _ _ _ _ _ us hl => match us, hl with | [_, _], _ => rfl⟩
theorem dm_Played_init (c : Says w K) : ∃ fd, Fun K "__init__" "Played.__init__" sPlayedInit (He.ma K (He.ga K "Played") "__init__") fd ∧ Binds K fd ["self", "course"] [] := by
  obtain ⟨fd, F⟩ := c.d.def_ 50 (d := dM "Played" "__init__" "Played.__init__" sPlayedInit []) rfl
  exact ⟨fd, He5.fun_of F, FunD.bindsN (ps := ["self", "course"]) F fun _ _ _ _ _ _ us hl => match us, hl with | [_, _], _ => rfl⟩
theorem dm_Course_showing (c : Says w K) : ∃ fd, Fun K "showing" "Course.showing" sCourseShowing (He.ma K (He.ga K "Course") "showing") fd ∧ Binds K fd ["self"] [] := by
  obtain ⟨fd, F⟩ := c.d.def_ 51 (d := dM "Course" "showing" "Course.showing" sCourseShowing []) rfl
  exact ⟨fd, He5.fun_of F, FunD.bindsN (ps := ["self"]) F fun _ _ _ _ _ _ us hl => match us, hl with | [_], _ => rfl⟩
theorem dm_Course_send (c : Says w K) : ∃ fd, Fun K "send" "Course.send" sCourseSend (He.ma K (He.ga K "Course") "send") fd ∧ Binds K fd ["self", "deed"] [] := by
  obtain ⟨fd, F⟩ := c.d.def_ 52 (d := dM "Course" "send" "Course.send" sCourseSend []) rfl
  exact ⟨fd, He5.fun_of F, FunD.bindsN (ps := ["self", "deed"]) F fun _ _ _ _ _ _ us hl => match us, hl with | [_, _], _ => rfl⟩
theorem dm_Course_standing_to (c : Says w K) : ∃ fd, Fun K "standing_to" "Course.standing_to" sCourseStandingTo (He.ma K (He.ga K "Course") "standing_to") fd ∧ Binds K fd ["self", "place", "part"] [] := by
  obtain ⟨fd, F⟩ := c.d.def_ 53 (d := dM "Course" "standing_to" "Course.standing_to" sCourseStandingTo []) rfl
  exact ⟨fd, He5.fun_of F, FunD.bindsN (ps := ["self", "place", "part"]) F fun _ _ _ _ _ _ us hl => match us, hl with | [_, _, _], _ => rfl⟩
theorem dm_Course_come (c : Says w K) : ∃ fd, Fun K "come" "Course.come" sCourseCome (He.ma K (He.ga K "Course") "come") fd ∧ Binds K fd ["self", "place"] [] := by
  obtain ⟨fd, F⟩ := c.d.def_ 54 (d := dM "Course" "come" "Course.come" sCourseCome []) rfl
  exact ⟨fd, He5.fun_of F, FunD.bindsN (ps := ["self", "place"]) F fun _ _ _ _ _ _ us hl => match us, hl with | [_, _], _ => rfl⟩
theorem dm_Course_hear (c : Says w K) : ∃ fd, Fun K "hear" "Course.hear" sCourseHear (He.ma K (He.ga K "Course") "hear") fd ∧ Binds K fd ["self", "answer"] [] := by
  obtain ⟨fd, F⟩ := c.d.def_ 55 (d := dM "Course" "hear" "Course.hear" sCourseHear []) rfl
  exact ⟨fd, He5.fun_of F, FunD.bindsN (ps := ["self", "answer"]) F fun _ _ _ _ _ _ us hl => match us, hl with | [_, _], _ => rfl⟩
theorem dm_Course_look (c : Says w K) : ∃ fd, Fun K "look" "Course.look" sCourseLook (He.ma K (He.ga K "Course") "look") fd ∧ Binds K fd ["self"] [] := by
  obtain ⟨fd, F⟩ := c.d.def_ 56 (d := dM "Course" "look" "Course.look" sCourseLook []) rfl
  exact ⟨fd, He5.fun_of F, FunD.bindsN (ps := ["self"]) F fun _ _ _ _ _ _ us hl => match us, hl with | [_], _ => rfl⟩
theorem dm_Course_judge (c : Says w K) : ∃ fd, Fun K "judge" "Course.judge" sCourseJudge (He.ma K (He.ga K "Course") "judge") fd ∧ Binds K fd ["self", "heard"] [] := by
  obtain ⟨fd, F⟩ := c.d.def_ 57 (d := dM "Course" "judge" "Course.judge" sCourseJudge []) rfl
  exact ⟨fd, He5.fun_of F, FunD.bindsN (ps := ["self", "heard"]) F fun _ _ _ _ _ _ us hl => match us, hl with | [_, _], _ => rfl⟩
theorem dm_Course_is_back (c : Says w K) : ∃ fd, Fun K "is_back" "Course.is_back" sCourseIsBack (He.ma K (He.ga K "Course") "is_back") fd ∧ Binds K fd ["self", "place"] [] := by
  obtain ⟨fd, F⟩ := c.d.def_ 58 (d := dM "Course" "is_back" "Course.is_back" sCourseIsBack []) rfl
  exact ⟨fd, He5.fun_of F, FunD.bindsN (ps := ["self", "place"]) F fun _ _ _ _ _ _ us hl => match us, hl with | [_, _], _ => rfl⟩
theorem dm_Post_init (c : Says w K) : ∃ fd, FunD K "__init__" "Post.__init__" (defArgs sPostInit) (defBody sPostInit) (defScope sPostInit) [V.int 1] [] (He.ma K (He.ga K "Post") "__init__") fd ∧ Binds K fd ["self", "plan", "days"] [] := by
  obtain ⟨fd, F⟩ := c.d.def_ 59 (d := dM "Post" "__init__" "Post.__init__" sPostInit [.int 1]) rfl
  obtain ⟨ds, hv, hb⟩ := FunD.binds1 (ps := ["self", "plan", "days"]) F 3 1 (fun z => nomatch z) rfl fun _ _ _ _ _ _ _ us its h1 h2 => match us, its, h1, h2 with | [_, _, _], [_], _, _ => ⟨_, rfl, rfl⟩
  cases hv
  exact ⟨fd, F, hb⟩
theorem dm_Post_send (c : Says w K) : ∃ fd, FunD K "send" "Post.send" (defArgs sPostSend) (defBody sPostSend) (defScope sPostSend) [V.non] [] (He.ma K (He.ga K "Post") "send") fd ∧ Binds K fd ["self", "kind", "day"] [] := by
  obtain ⟨fd, F⟩ := c.d.def_ 60 (d := dM "Post" "send" "Post.send" sPostSend [.non]) rfl
  obtain ⟨ds, hv, hb⟩ := FunD.binds1 (ps := ["self", "kind", "day"]) F 3 1 (fun z => nomatch z) rfl fun _ _ _ _ _ _ _ us its h1 h2 => match us, its, h1, h2 with | [_, _, _], [_], _, _ => ⟨_, rfl, rfl⟩
  cases hv
  exact ⟨fd, F, hb⟩
theorem dm_Post_do (c : Says w K) : ∃ fd, Fun K "do" "Post.do" sPostDo (He.ma K (He.ga K "Post") "do") fd ∧ Binds K fd ["self", "guest", "day", "event"] [] := by
  obtain ⟨fd, F⟩ := c.d.def_ 61 (d := dM "Post" "do" "Post.do" sPostDo []) rfl
  exact ⟨fd, He5.fun_of F, FunD.bindsN (ps := ["self", "guest", "day", "event"]) F fun _ _ _ _ _ _ us hl => match us, hl with | [_, _, _, _], _ => rfl⟩
theorem dm_Post_weaving_for (c : Says w K) : ∃ fd, Fun K "weaving_for" "Post.weaving_for" sPostWeavingFor (He.ma K (He.ga K "Post") "weaving_for") fd ∧ Binds K fd ["self", "guest", "day"] [] := by
  obtain ⟨fd, F⟩ := c.d.def_ 62 (d := dM "Post" "weaving_for" "Post.weaving_for" sPostWeavingFor []) rfl
  exact ⟨fd, He5.fun_of F, FunD.bindsN (ps := ["self", "guest", "day"]) F fun _ _ _ _ _ _ us hl => match us, hl with | [_, _, _], _ => rfl⟩
theorem dm_Post_played (c : Says w K) : ∃ fd, Fun K "played" "Post.played" sPostPlayed (He.ma K (He.ga K "Post") "played") fd ∧ Binds K fd ["self", "guest", "day"] [] := by
  obtain ⟨fd, F⟩ := c.d.def_ 63 (d := dM "Post" "played" "Post.played" sPostPlayed []) rfl
  exact ⟨fd, He5.fun_of F, FunD.bindsN (ps := ["self", "guest", "day"]) F fun _ _ _ _ _ _ us hl => match us, hl with | [_, _, _], _ => rfl⟩
theorem dm_Post_look (c : Says w K) : ∃ fd, Fun K "look" "Post.look" sPostLook (He.ma K (He.ga K "Post") "look") fd ∧ Binds K fd ["self", "guest", "day"] [] := by
  obtain ⟨fd, F⟩ := c.d.def_ 64 (d := dM "Post" "look" "Post.look" sPostLook []) rfl
  exact ⟨fd, He5.fun_of F, FunD.bindsN (ps := ["self", "guest", "day"]) F fun _ _ _ _ _ _ us hl => match us, hl with | [_, _, _], _ => rfl⟩
theorem dm_Post_come (c : Says w K) : ∃ fd, Fun K "come" "Post.come" sPostCome (He.ma K (He.ga K "Post") "come") fd ∧ Binds K fd ["self", "guest", "place"] [] := by
  obtain ⟨fd, F⟩ := c.d.def_ 65 (d := dM "Post" "come" "Post.come" sPostCome []) rfl
  exact ⟨fd, He5.fun_of F, FunD.bindsN (ps := ["self", "guest", "place"]) F fun _ _ _ _ _ _ us hl => match us, hl with | [_, _, _], _ => rfl⟩
theorem dm_Post_len (c : Says w K) : ∃ fd, Fun K "__len__" "Post.__len__" sPostLen (He.ma K (He.ga K "Post") "__len__") fd ∧ Binds K fd ["self"] [] := by
  obtain ⟨fd, F⟩ := c.d.def_ 66 (d := dM "Post" "__len__" "Post.__len__" sPostLen []) rfl
  exact ⟨fd, He5.fun_of F, FunD.bindsN (ps := ["self"]) F fun _ _ _ _ _ _ us hl => match us, hl with | [_], _ => rfl⟩
theorem dm_Post_undo (c : Says w K) : ∃ fd, Fun K "undo" "Post.undo" sPostUndo (He.ma K (He.ga K "Post") "undo") fd ∧ Binds K fd ["self"] [] := by
  obtain ⟨fd, F⟩ := c.d.def_ 67 (d := dM "Post" "undo" "Post.undo" sPostUndo []) rfl
  exact ⟨fd, He5.fun_of F, FunD.bindsN (ps := ["self"]) F fun _ _ _ _ _ _ us hl => match us, hl with | [_], _ => rfl⟩
theorem dm_Plan_len (c : Says w K) : ∃ fd, Fun K "__len__" "Plan.__len__" sPlanLen (He.ma K (He.ga K "Plan") "__len__") fd ∧ Binds K fd ["self"] [] := by
  obtain ⟨fd, F⟩ := c.d.def_ 68 (d := dM "Plan" "__len__" "Plan.__len__" sPlanLen []) rfl
  exact ⟨fd, He5.fun_of F, FunD.bindsN (ps := ["self"]) F fun _ _ _ _ _ _ us hl => match us, hl with | [_], _ => rfl⟩
theorem dm_Desk_init (c : Says w K) : ∃ fd, Fun K "__init__" "Desk.__init__" sDeskInit (He.ma K (He.ga K "Desk") "__init__") fd ∧ Binds K fd ["self"] [] := by
  obtain ⟨fd, F⟩ := c.d.def_ 69 (d := dM "Desk" "__init__" "Desk.__init__" sDeskInit []) rfl
  exact ⟨fd, He5.fun_of F, FunD.bindsN (ps := ["self"]) F fun _ _ _ _ _ _ us hl => match us, hl with | [_], _ => rfl⟩
theorem dm_Desk_say (c : Says w K) : ∃ fd, Fun K "say" "Desk.say" sDeskSay (He.ma K (He.ga K "Desk") "say") fd ∧ Binds K fd ["self", "command"] [] := by
  obtain ⟨fd, F⟩ := c.d.def_ 70 (d := dM "Desk" "say" "Desk.say" sDeskSay []) rfl
  exact ⟨fd, He5.fun_of F, FunD.bindsN (ps := ["self", "command"]) F fun _ _ _ _ _ _ us hl => match us, hl with | [_, _], _ => rfl⟩
theorem dm_Rule_read (c : Says w K) : ∃ fd, Fun K "read" "Rule.read" sRuleRead (He5.wf K (He.ga K "Rule") "classmethod" "read") fd ∧ Binds K fd ["cls", "text"] [] := by
  obtain ⟨fd, F⟩ := c.d.def_ 71 (d := dC "Rule" "read" "Rule.read" sRuleRead) rfl
  exact ⟨fd, He5.fun_of F, FunD.bindsN (ps := ["cls", "text"]) F fun _ _ _ _ _ _ us hl => match us, hl with | [_, _], _ => rfl⟩
theorem dm_Plan_read (c : Says w K) : ∃ fd, Fun K "read" "Plan.read" sPlanRead (He5.wf K (He.ga K "Plan") "classmethod" "read") fd ∧ Binds K fd ["cls", "text"] [] := by
  obtain ⟨fd, F⟩ := c.d.def_ 72 (d := dC "Plan" "read" "Plan.read" sPlanRead) rfl
  exact ⟨fd, He5.fun_of F, FunD.bindsN (ps := ["cls", "text"]) F fun _ _ _ _ _ _ us hl => match us, hl with | [_, _], _ => rfl⟩
theorem dm_Post_sent (c : Says w K) : ∃ fd, Fun K "sent" "Post.sent" sPostSent (He5.wf K (He.ga K "Post") "property" "sent") fd ∧ Binds K fd ["self"] [] := by
  obtain ⟨fd, F⟩ := c.d.def_ 73 (d := dP "Post" "sent" "Post.sent" sPostSent) rfl
  exact ⟨fd, He5.fun_of F, FunD.bindsN (ps := ["self"]) F fun _ _ _ _ _ _ us hl => match us, hl with | [_], _ => rfl⟩
end
theorem facts {P : Program} {w : World} {K : PySem.W.Frag} {h : Heap} {mg : Str → Option Value} {f : Addr} (X : K.In h) (G : h.Ns mainGlobals mg) (hfa : mg ("law" : Str) = some (.ref f)) (c : Says w K) :
    ∃ fd : FuncData, (∀ (s : Shared) (v : Value), BindsTo s fd ⟨[v], []⟩ [("_law_script", v)]) ∧ ∀ base : Heap, K.In base → base.Ns mainGlobals mg → FnOk P w K mg base CX0 12 f fd ["_law_script"] (spLaw K) := by
  obtain ⟨fd, F⟩ := c.d.def_ 13 (d := dA "law" sLaw) rfl
  have e := hfa.symm.trans (He.glo_ok X G (c.d.fact 13 (f := .glo "law") rfl))
  cases e
  have b := FunD.bindsA (ps := ["_law_script"]) F fun _ _ _ _ _ _ us hl => match us, hl with | [_], _ => rfl
  obtain ⟨d_deal, D_deal⟩ := df_law_deal X G c
  obtain ⟨d_draw, D_draw⟩ := df_law_draw X G c
  obtain ⟨d_pick, D_pick⟩ := df_law_pick X G c
  obtain ⟨d_mixed, D_mixed⟩ := df_law_mixed X G c
  obtain ⟨d_tests_of, D_tests_of⟩ := df_law_tests_of X G c
  obtain ⟨d_law_deeds_of, D_law_deeds_of⟩ := df_law_deeds_of X G c
  obtain ⟨d_any_rule, D_any_rule⟩ := df_law_any_rule X G c
  obtain ⟨d_usual_rules, D_usual_rules⟩ := df_law_usual_rules X G c
  obtain ⟨d_raised, D_raised⟩ := df_law_raised X G c
  obtain ⟨d_plan, D_plan⟩ := df_law_plan X G c
  obtain ⟨d_rule_text, D_rule_text⟩ := df_law_rule_text X G c
  obtain ⟨d_text, D_text⟩ := df_law_text X G c
  obtain ⟨d_command, D_command⟩ := df_law_command X G c
  obtain ⟨d_is_sequence, D_is_sequence⟩ := df_is_sequence X G c
  obtain ⟨d_is_kind, D_is_kind⟩ := df_is_kind X G c
  obtain ⟨d_is_test, D_is_test⟩ := df_is_test X G c
  obtain ⟨d_is_deed, D_is_deed⟩ := df_is_deed X G c
  obtain ⟨d_split_part, D_split_part⟩ := df_split_part X G c
  obtain ⟨d_are_raises, D_are_raises⟩ := df_are_raises X G c
  obtain ⟨d_are_rules, D_are_rules⟩ := df_are_rules X G c
  obtain ⟨d_read_rule, D_read_rule⟩ := df_read_rule X G c
  obtain ⟨d_read_place, D_read_place⟩ := df_read_place X G c
  obtain ⟨d_relation, D_relation⟩ := df_relation X G c
  obtain ⟨d_holds, D_holds⟩ := df_holds X G c
  obtain ⟨d_letter_rule, D_letter_rule⟩ := df_letter_rule X G c
  obtain ⟨d_answer_rule, D_answer_rule⟩ := df_answer_rule X G c
  obtain ⟨d_deeds_of, D_deeds_of⟩ := df_deeds_of X G c
  obtain ⟨d_is_whole_kind, D_is_whole_kind⟩ := df_is_whole_kind X G c
  obtain ⟨d_effect, D_effect⟩ := df_effect X G c
  obtain ⟨d_letter_to_come, D_letter_to_come⟩ := df_letter_to_come X G c
  obtain ⟨d_can_answer, D_can_answer⟩ := df_can_answer X G c
  obtain ⟨d_go_on, D_go_on⟩ := df_go_on X G c
  obtain ⟨d_play, D_play⟩ := df_play X G c
  obtain ⟨d_is_integer, D_is_integer⟩ := df_is_integer X G c
  obtain ⟨d_is_place, D_is_place⟩ := df_is_place X G c
  obtain ⟨d_is_name, D_is_name⟩ := df_is_name X G c
  obtain ⟨d_check_name, D_check_name⟩ := df_check_name X G c
  obtain ⟨d_is_of, D_is_of⟩ := df_is_of X G c
  obtain ⟨d_has_form, D_has_form⟩ := df_has_form X G c
  obtain ⟨d_words_of, D_words_of⟩ := df_words_of X G c
  obtain ⟨d_say_plan, D_say_plan⟩ := df_say_plan X G c
  obtain ⟨d_say_post, D_say_post⟩ := df_say_post X G c
  obtain ⟨d_say_send, D_say_send⟩ := df_say_send X G c
  obtain ⟨d_say_come, D_say_come⟩ := df_say_come X G c
  obtain ⟨d_say_shows, D_say_shows⟩ := df_say_shows X G c
  obtain ⟨d_say_undo, D_say_undo⟩ := df_say_undo X G c
  obtain ⟨d_Rule_init, F_Rule_init, b_Rule_init⟩ := dm_Rule_init c
  obtain ⟨d_Plan_init, F_Plan_init, b_Plan_init⟩ := dm_Plan_init c
  obtain ⟨d_Course_init, F_Course_init, b_Course_init⟩ := dm_Course_init c
  obtain ⟨d_Played_init, F_Played_init, b_Played_init⟩ := dm_Played_init c
  obtain ⟨d_Course_showing, F_Course_showing, b_Course_showing⟩ := dm_Course_showing c
  obtain ⟨d_Course_send, F_Course_send, b_Course_send⟩ := dm_Course_send c
  obtain ⟨d_Course_standing_to, F_Course_standing_to, b_Course_standing_to⟩ := dm_Course_standing_to c
  obtain ⟨d_Course_come, F_Course_come, b_Course_come⟩ := dm_Course_come c
  obtain ⟨d_Course_hear, F_Course_hear, b_Course_hear⟩ := dm_Course_hear c
  obtain ⟨d_Course_look, F_Course_look, b_Course_look⟩ := dm_Course_look c
  obtain ⟨d_Course_judge, F_Course_judge, b_Course_judge⟩ := dm_Course_judge c
  obtain ⟨d_Course_is_back, F_Course_is_back, b_Course_is_back⟩ := dm_Course_is_back c
  obtain ⟨d_Post_init, F_Post_init, b_Post_init⟩ := dm_Post_init c
  obtain ⟨d_Post_send, F_Post_send, b_Post_send⟩ := dm_Post_send c
  obtain ⟨d_Post_do, F_Post_do, b_Post_do⟩ := dm_Post_do c
  obtain ⟨d_Post_weaving_for, F_Post_weaving_for, b_Post_weaving_for⟩ := dm_Post_weaving_for c
  obtain ⟨d_Post_played, F_Post_played, b_Post_played⟩ := dm_Post_played c
  obtain ⟨d_Post_look, F_Post_look, b_Post_look⟩ := dm_Post_look c
  obtain ⟨d_Post_come, F_Post_come, b_Post_come⟩ := dm_Post_come c
  obtain ⟨d_Post_len, F_Post_len, b_Post_len⟩ := dm_Post_len c
  obtain ⟨d_Post_undo, F_Post_undo, b_Post_undo⟩ := dm_Post_undo c
  obtain ⟨d_Plan_len, F_Plan_len, b_Plan_len⟩ := dm_Plan_len c
  obtain ⟨d_Desk_init, F_Desk_init, b_Desk_init⟩ := dm_Desk_init c
  obtain ⟨d_Desk_say, F_Desk_say, b_Desk_say⟩ := dm_Desk_say c
  obtain ⟨d_Rule_read, F_Rule_read, b_Rule_read⟩ := dm_Rule_read c
  obtain ⟨d_Plan_read, F_Plan_read, b_Plan_read⟩ := dm_Plan_read c
  obtain ⟨d_Post_sent, F_Post_sent, b_Post_sent⟩ := dm_Post_sent c
  obtain ⟨tA, gA⟩ := He.str_ok X G (c.d.fact 80 (f := .str "ANSWER" "answer") rfl)
  obtain ⟨tN, gN⟩ := He.str_ok X G (c.d.fact 81 (f := .str "NOT" "not ") rfl)
  obtain ⟨tO, gO⟩ := He.str_ok X G (c.d.fact 82 (f := .str "OTHER" "other") rfl)
  obtain ⟨tCm, gCm⟩ := He.str_ok X G (c.d.fact 83 (f := .str "COME" "come ") rfl)
  obtain ⟨tHd, gHd⟩ := He.str_ok X G (c.d.fact 84 (f := .str "HEARD" "heard ") rfl)
  obtain ⟨tAn, gAn⟩ := He.str_ok X G (c.d.fact 85 (f := .str "ANSWERING" "answer") rfl)
  have TB : TxB mg := ⟨He.free_ok X G (c.d.fact 63 (f := .free "int") rfl), He.free_ok X G (c.d.fact 64 (f := .free "abs") rfl), He.free_ok X G (c.d.fact 65 (f := .free "len") rfl), He.free_ok X G (c.d.fact 66 (f := .free "range") rfl), He.free_ok X G (c.d.fact 67 (f := .free "max") rfl), He.free_ok X G (c.d.fact 68 (f := .free "min") rfl), He.free_ok X G (c.d.fact 69 (f := .free "list") rfl), He.free_ok X G (c.d.fact 70 (f := .free "tuple") rfl)⟩
  have T : TxR K mg (He.ga K "LETTERS") (He.ga K "LETTER_TESTS") (He.ga K "LETTER_DEEDS") (He.ga K "ANSWER_TESTS") (He.ga K "ANSWER_DEEDS") (He.ga K "Rule") tA tN :=
    { toTxB := TB, g_ANSWER := gA, g_NOT := gN, g_LETTERS := He.glo_ok X G (c.d.fact 51 (f := .glo "LETTERS") rfl), s_LETTERS := He.tupB_ok (ex_at c.more 0 rfl), g_LETTER_TESTS := He.glo_ok X G (c.d.fact 52 (f := .glo "LETTER_TESTS") rfl), s_LETTER_TESTS := He.tupB_ok (ex_at c.more 1 rfl), g_LETTER_DEEDS := He.glo_ok X G (c.d.fact 53 (f := .glo "LETTER_DEEDS") rfl), s_LETTER_DEEDS := He.tupB_ok (ex_at c.more 2 rfl), g_ANSWER_TESTS := He.glo_ok X G (c.d.fact 54 (f := .glo "ANSWER_TESTS") rfl), s_ANSWER_TESTS := He.tupB_ok (ex_at c.more 3 rfl), g_ANSWER_DEEDS := He.glo_ok X G (c.d.fact 55 (f := .glo "ANSWER_DEEDS") rfl), s_ANSWER_DEEDS := He.tupB_ok (ex_at c.more 4 rfl), g_Rule := He.glo_ok X G (c.d.fact 47 (f := .glo "Rule") rfl), n_isinstance := He.free_ok X G (c.d.fact 71 (f := .free "isinstance") rfl), n_str := He.free_ok X G (c.d.fact 72 (f := .free "str") rfl), n_all := He.free_ok X G (c.d.fact 73 (f := .free "all") rfl), cl := He.cls_ok (c.d.fact 88 (f := .cls "Rule") rfl), nK := He.noat_ok (c.d.fact 94 (f := .noat "Rule" "kind") rfl), nT := He.noat_ok (c.d.fact 95 (f := .noat "Rule" "tests") rfl), nD := He.noat_ok (c.d.fact 96 (f := .noat "Rule" "deeds") rfl), ci := He.eqO_ok (ex_at c.more 7 rfl), cs := He.eqO_ok (ex_at c.more 8 rfl), ct := of_decide_eq_true (ex_at c.more 9 rfl), co := of_decide_eq_true (ex_at c.more 6 rfl) }
  have TP : TxP K mg (He.ga K "Plan") := { g_Plan := He.glo_ok X G (c.d.fact 48 (f := .glo "Plan") rfl), n_sorted := He.free_ok X G (c.d.fact 74 (f := .free "sorted") rfl), n_set := He.free_ok X G (c.d.fact 75 (f := .free "set") rfl), n_bool := He.free_ok X G (c.d.fact 76 (f := .free "bool") rfl), n_isinstance := He.free_ok X G (c.d.fact 71 (f := .free "isinstance") rfl), n_int := He.free_ok X G (c.d.fact 63 (f := .free "int") rfl), n_len := He.free_ok X G (c.d.fact 65 (f := .free "len") rfl), n_tuple := He.free_ok X G (c.d.fact 70 (f := .free "tuple") rfl), cl := He.cls_ok (c.d.fact 89 (f := .cls "Plan") rfl), nR := He.noat_ok (c.d.fact 97 (f := .noat "Plan" "raises") rfl), nU := He.noat_ok (c.d.fact 98 (f := .noat "Plan" "rules") rfl) }
  have TW : TxW K w mg (He.ga K "HOLDS") := ⟨He.glo_ok X G (c.d.fact 56 (f := .glo "HOLDS") rfl), holdsB_ok (ex_at c.more 18 rfl) (List.cons.inj c.tab).1, He.free_ok X G (c.d.fact 77 (f := .free "enumerate") rfl), He.free_ok X G (c.d.fact 73 (f := .free "all") rfl)⟩
  have TC : TxC K mg (He.ga K "Course") tO := { g_Course := He.glo_ok X G (c.d.fact 49 (f := .glo "Course") rfl), g_OTHER := gO, cl := He.cls_ok (c.d.fact 90 (f := .cls "Course") rfl), plan := He.noat_ok (c.d.fact 99 (f := .noat "Course" "plan") rfl), letters := He.noat_ok (c.d.fact 100 (f := .noat "Course" "letters") rfl), newest := He.noat_ok (c.d.fact 101 (f := .noat "Course" "newest") rfl), whole := He.noat_ok (c.d.fact 102 (f := .noat "Course" "whole") rfl), own := He.noat_ok (c.d.fact 103 (f := .noat "Course" "own") rfl), came := He.noat_ok (c.d.fact 104 (f := .noat "Course" "came") rfl), shown := He.noat_ok (c.d.fact 105 (f := .noat "Course" "shown") rfl), off := He.noat_ok (c.d.fact 106 (f := .noat "Course" "called_off") rfl), answers := He.noat_ok (c.d.fact 107 (f := .noat "Course" "answers") rfl), counted := He.noat_ok (c.d.fact 108 (f := .noat "Course" "counted") rfl), shows := He.noat_ok (c.d.fact 109 (f := .noat "Course" "shows") rfl), rules := He.noat_ok (c.d.fact 110 (f := .noat "Course" "rules") rfl), goals := He.noat_ok (c.d.fact 111 (f := .noat "Course" "goals") rfl) }
  have TD : TxD K mg (He.ga K "Played") := { g_Played := He.glo_ok X G (c.d.fact 50 (f := .glo "Played") rfl), cl := He.cls_ok (c.d.fact 91 (f := .cls "Played") rfl), letters := He.noat_ok (c.d.fact 112 (f := .noat "Played" "letters") rfl), shows := He.noat_ok (c.d.fact 113 (f := .noat "Played" "shows") rfl), whole := He.noat_ok (c.d.fact 114 (f := .noat "Played" "whole") rfl), own := He.noat_ok (c.d.fact 115 (f := .noat "Played" "own") rfl), answers := He.noat_ok (c.d.fact 116 (f := .noat "Played" "answers") rfl), counted := He.noat_ok (c.d.fact 117 (f := .noat "Played" "counted") rfl), rules := He.noat_ok (c.d.fact 118 (f := .noat "Played" "rules") rfl), goals := He.noat_ok (c.d.fact 119 (f := .noat "Played" "goals") rfl) }
  have TG : TxG K mg (He.ga K "DEEDS") tCm tHd tAn := ⟨He.glo_ok X G (c.d.fact 57 (f := .glo "DEEDS") rfl), He.tupB_ok (ex_at c.more 5 rfl), gCm, gHd, gAn⟩
  have TQ : TxQ K mg (He.ga K "Post") tCm tHd tAn := ⟨gCm, gHd, gAn, He.cls_ok (c.d.fact 92 (f := .cls "Post") rfl), He.noat_ok (c.d.fact 120 (f := .noat "Post" "plan") rfl), He.noat_ok (c.d.fact 121 (f := .noat "Post" "days") rfl), He.noat_ok (c.d.fact 122 (f := .noat "Post" "deeds") rfl)⟩
  have MQ_send := He.meth_ok (c.d.fact 133 (f := .meth "Post" "send") rfl)
  have MQ_do := He.meth_ok (c.d.fact 134 (f := .meth "Post" "do") rfl)
  have MQ_weaving_for := He.meth_ok (c.d.fact 135 (f := .meth "Post" "weaving_for") rfl)
  have MQ_played := He.meth_ok (c.d.fact 136 (f := .meth "Post" "played") rfl)
  have MQ_look := He.meth_ok (c.d.fact 137 (f := .meth "Post" "look") rfl)
  have MQ_come := He.meth_ok (c.d.fact 138 (f := .meth "Post" "come") rfl)
  have MQ_len := He.meth_ok (c.d.fact 139 (f := .meth "Post" "__len__") rfl)
  have MQ_undo := He.meth_ok (c.d.fact 140 (f := .meth "Post" "undo") rfl)
  have mkQ := He.mkr_ok (c.d.fact 147 (f := .mkr "Post") rfl)
  have P_sent := propB_ok (ex_at c.more 19 rfl)
  obtain ⟨dsD, dvD, b_send1⟩ := FunD.binds1 (ps := ["self", "kind", "day"]) F_Post_send 2 0 (fun z => nomatch z) rfl fun _ _ _ _ _ _ _ us its h1 h2 => match us, its, h1, h2 with | [_, _], [_], _, _ => ⟨_, rfl, rfl⟩
  have M_showing := He.meth_ok (c.d.fact 125 (f := .meth "Course" "showing") rfl)
  have M_send := He.meth_ok (c.d.fact 126 (f := .meth "Course" "send") rfl)
  have M_standing_to := He.meth_ok (c.d.fact 127 (f := .meth "Course" "standing_to") rfl)
  have M_come := He.meth_ok (c.d.fact 128 (f := .meth "Course" "come") rfl)
  have M_hear := He.meth_ok (c.d.fact 129 (f := .meth "Course" "hear") rfl)
  have M_look := He.meth_ok (c.d.fact 130 (f := .meth "Course" "look") rfl)
  have M_judge := He.meth_ok (c.d.fact 131 (f := .meth "Course" "judge") rfl)
  have M_is_back := He.meth_ok (c.d.fact 132 (f := .meth "Course" "is_back") rfl)
  have cmR := He5.cmet_of (ex_at c.more 12 rfl) (ex_at c.more 13 rfl)
  have rdR : ClX.CRead K (He.ga K "Rule") (.type "type") := ⟨(ex_at c.more 10 rfl), He.eqO_ok (ex_at c.more 11 rfl)⟩
  have cmP := He5.cmet_of (ex_at c.more 16 rfl) (ex_at c.more 17 rfl)
  have rdP : ClX.CRead K (He.ga K "Plan") (.type "type") := ⟨(ex_at c.more 14 rfl), He.eqO_ok (ex_at c.more 15 rfl)⟩
  have mkR := He.mkr_ok (c.d.fact 143 (f := .mkr "Rule") rfl)
  have mkP := He.mkr_ok (c.d.fact 144 (f := .mkr "Plan") rfl)
  have mkC := He.mkr_ok (c.d.fact 145 (f := .mkr "Course") rfl)
  have mkD := He.mkr_ok (c.d.fact 146 (f := .mkr "Played") rfl)
  refine ⟨fd, fun s v => b s [v] rfl, fun base _ _ => ?_⟩
  have G_rinit := ok_rule_init (P := P) (w := w) (base := base) F_Rule_init T D_is_sequence D_is_kind D_is_test D_is_deed
  have G_are := ok_are_raisesG (P := P) (w := w) (base := base) D_are_raises.F T TP.n_set D_is_sequence
  have G_init := ok_plan_initG (P := P) (w := w) (base := base) F_Plan_init T TP D_is_sequence D_are_raises G_are D_are_rules
  have G_readR0 := ok_rule_read (P := P) (w := w) (base := base) F_Rule_read T D_split_part mkR G_rinit b_Rule_init
  have G_readR : FnR P w K mg base CX0 4 (He5.wf K (He.ga K "Rule") "classmethod" "read") (spRuleReadG K (He.ga K "Rule")) := (G_readR0.raw b_Rule_read .nil).imp fun vs H Q E h => by rw [List.append_nil]; exact h
  have G_read_rule := ok_read_rule (P := P) (w := w) (base := base) D_read_rule.F T.g_Rule rdR cmR G_readR
  have G_readP0 := ok_plan_read (P := P) (w := w) (base := base) F_Plan_read (He.free_ok X G (c.d.fact 77 (f := .free "enumerate") rfl)) D_are_raises D_read_rule G_are G_read_rule mkP G_init b_Plan_init
  have G_readP : FnR P w K mg base CX0 6 (He5.wf K (He.ga K "Plan") "classmethod" "read") (spPlanReadG K (He.ga K "Rule") (He.ga K "Plan") sortedOf) := (G_readP0.raw b_Plan_read .nil).imp fun vs H Q E h => by rw [List.append_nil]; exact h
  have G_letter_rule := ok_letter_rule (P := P) (w := w) (base := base) D_letter_rule.F T TW TP D_holds
  have G_answer_rule := ok_answer_rule (P := P) (w := w) (base := base) D_answer_rule.F T TW TP
  have G_deeds_of := ok_deedsM (P := P) (w := w) (mg := mg) (base := base) D_deeds_of.F T.cl T.nD TP.cl TP.nU
  have G_effect := ok_effect (P := P) (w := w) (base := base) D_effect.F D_is_whole_kind
  have G_showing := ok_showing (P := P) (w := w) (base := base) (CR := He.ga K "Rule") (CP := He.ga K "Plan") F_Course_showing TC
  have G_send := ok_send (P := P) (w := w) (base := base) F_Course_send T TP TC
  have G_standing := ok_standing_to (P := P) (w := w) (base := base) (CR := He.ga K "Rule") (CP := He.ga K "Plan") F_Course_standing_to TC D_relation
  have G_come := ok_come (P := P) (w := w) (base := base) F_Course_come TC M_standing_to G_standing b_Course_standing_to D_letter_rule G_letter_rule D_effect G_effect D_deeds_of G_deeds_of D_is_whole_kind
  have G_hear := ok_hear (P := P) (w := w) (base := base) F_Course_hear TC D_answer_rule G_answer_rule D_deeds_of G_deeds_of
  have G_look := ok_look (P := P) (w := w) (base := base) F_Course_look TC M_showing G_showing b_Course_showing
  have G_is_back := ok_is_back (P := P) (w := w) (base := base) (CR := He.ga K "Rule") (CP := He.ga K "Plan") F_Course_is_back TC
  have G_judge := ok_judge (P := P) (w := w) (base := base) F_Course_judge TC M_is_back G_is_back b_Course_is_back
  have G_read_place := ok_read_place (P := P) (w := w) (base := base) D_read_place.F T
  have G_to_come := ok_to_come (P := P) (w := w) (base := base) (CP := He.ga K "Plan") D_letter_to_come.F T TC TG D_read_place G_read_place
  have G_can_answer := ok_can_answer (P := P) (w := w) (base := base) D_can_answer.F TC M_showing G_showing b_Course_showing
  have G_go_on := ok_go_on (P := P) (w := w) (base := base) D_go_on.F T TC TG D_letter_to_come G_to_come D_read_place G_read_place D_can_answer G_can_answer M_send G_send b_Course_send M_come G_come b_Course_come M_hear G_hear b_Course_hear M_look G_look b_Course_look M_judge G_judge b_Course_judge M_showing G_showing b_Course_showing
  have G_cinit := ok_course_init (P := P) (w := w) (base := base) (CR := He.ga K "Rule") (CP := He.ga K "Plan") F_Course_init TC
  have G_pinit := ok_played_init (P := P) (w := w) (base := base) F_Played_init T TP TC TD
  have G_play := ok_play (P := P) (w := w) (base := base) D_play.F T TW TC TD D_is_sequence mkC G_cinit b_Course_init D_go_on G_go_on mkD G_pinit b_Played_init
  have GQ_do := ok_do (P := P) (w := w) (base := base) (CR := He.ga K "Rule") (CP := He.ga K "Plan") F_Post_do TQ
  have GQ_sent := ok_sent (P := P) (w := w) (base := base) (CR := He.ga K "Rule") F_Post_sent T TP TQ
  have GQ_wv := ok_weave (P := P) (w := w) (base := base) F_Post_weaving_for T TP TQ D_is_name D_check_name D_is_integer D_is_place
  have GQ_played := ok_played (P := P) (w := w) (base := base) F_Post_played TQ MQ_weaving_for GQ_wv b_Post_weaving_for D_play G_play
  have GQ_look := ok_plook (P := P) (w := w) (base := base) F_Post_look TQ TD MQ_played GQ_played b_Post_played
  have GQ_come := ok_pcome (P := P) (w := w) (base := base) F_Post_come T TP TQ D_is_name D_check_name D_is_integer D_is_place P_sent GQ_sent b_Post_sent MQ_do GQ_do b_Post_do
  have GQ_send := ok_psend (P := P) (w := w) (base := base) F_Post_send T TP TQ D_is_whole_kind D_is_integer D_is_place P_sent GQ_sent b_Post_sent MQ_do GQ_do b_Post_do
  have GQ_len := ok_post_len (P := P) (w := w) (base := base) (CR := He.ga K "Rule") F_Post_len TP TQ
  have GQ_undo := ok_undoB (P := P) (w := w) (base := base) (CR := He.ga K "Rule") F_Post_undo TP TQ
  have GQ_init := ok_post_init (P := P) (w := w) (base := base) (CR := He.ga K "Rule") (CP := He.ga K "Plan") F_Post_init TQ
  obtain ⟨ds2, hv2, b_init2⟩ := FunD.binds1 (ps := ["self", "raises", "rules"]) F_Plan_init 1 0 (fun z => nomatch z) rfl fun _ _ _ _ _ _ _ us its h1 h2 => match us, its, h1, h2 with | [_], [_, _], _, _ => ⟨_, rfl, rfl⟩
  obtain ⟨dsQ, dvQ, b_qinit1⟩ := FunD.binds1 (ps := ["self", "plan", "days"]) F_Post_init 2 0 (fun z => nomatch z) rfl fun _ _ _ _ _ _ _ us its h1 h2 => match us, its, h1, h2 with | [_, _], [_], _, _ => ⟨_, rfl, rfl⟩
  have dfT0 := emB_ok (ex_at c.more 20 rfl)
  have dfT1 := emB_ok (ex_at c.more 21 rfl)
  obtain ⟨tMo, gMo⟩ := He.str_ok X G (c.d.fact 86 (f := .str "MORE" " ..") rfl)
  obtain ⟨tNu, gNu⟩ := He.int_ok X G (c.d.fact 87 (f := .int "NUMBERS" 10000) rfl)
  have tb1 := (List.cons.inj (List.cons.inj c.tab).2).1
  have tb2 := (List.cons.inj (List.cons.inj (List.cons.inj c.tab).2).2).1
  have lowF : (He.ga K "FORMS" == sysModules) = false := by
    obtain ⟨_, _, D⟩ := He.dicW_ok tb1
    exact D.low
  have TF : TxF K w mg (He.ga K "FORMS") (He.ga K "GOALS") tMo tNu := { g_FORMS := He.glo_ok X G (c.d.fact 60 (f := .glo "FORMS") rfl), lowF := lowF, kF := formsB_ok (ex_at c.more 22 rfl) tb1, g_GOALS := He.glo_ok X G (c.d.fact 62 (f := .glo "GOALS") rfl), g_MORE := gMo, g_NUMBERS := gNu, n_any := He.free_ok X G (c.d.fact 78 (f := .free "any") rfl), n_zip := He.free_ok X G (c.d.fact 79 (f := .free "zip") rfl) }
  have TK : TxK K (He.ga K "Desk") := ⟨He.cls_ok (c.d.fact 93 (f := .cls "Desk") rfl), He.noat_ok (c.d.fact 123 (f := .noat "Desk" "plan") rfl), He.noat_ok (c.d.fact 124 (f := .noat "Desk" "post") rfl)⟩
  have g_Post := He.glo_ok X G (c.d.fact 58 (f := .glo "Post") rfl)
  have g_Desk := He.glo_ok X G (c.d.fact 59 (f := .glo "Desk") rfl)
  have g_ACTIONS := He.glo_ok X G (c.d.fact 61 (f := .glo "ACTIONS") rfl)
  have n_str := He.free_ok X G (c.d.fact 72 (f := .free "str") rfl)
  have mkK := He.mkr_ok (c.d.fact 148 (f := .mkr "Desk") rfl)
  have MK_say := He.meth_ok (c.d.fact 141 (f := .meth "Desk" "say") rfl)
  have mP_len := He.meth_ok (c.d.fact 142 (f := .meth "Plan" "__len__") rfl)
  have GK_init := ok_desk_init (P := P) (w := w) (base := base) F_Desk_init TP TK g_Post mkQ GQ_init b_qinit1 dvQ mkP G_init b_init2 hv2 dfT0 dfT1
  have GK_plan := ok_say_plan (P := P) (w := w) (base := base) D_say_plan.F T TP TK g_Post mP_len (ok_plan_len F_Plan_len TP) b_Plan_len mkQ GQ_init b_qinit1 dvQ rdP cmP G_readP
  have GK_post := ok_say_post (P := P) (w := w) (base := base)  D_say_post.F T TP TK g_Post mkQ GQ_init b_Post_init
  have GK_send := ok_say_send (P := P) (w := w) (base := base) (CR := He.ga K "Rule") (CP := He.ga K "Plan") D_say_send.F T TP TQ TK MQ_send GQ_send b_Post_send
  have GK_come := ok_say_come (P := P) (w := w) (base := base) (CR := He.ga K "Rule") (CP := He.ga K "Plan") D_say_come.F T TP TQ TK MQ_come GQ_come b_Post_come
  have GK_shows := ok_say_shows (P := P) (w := w) (base := base) (CR := He.ga K "Rule") (CP := He.ga K "Plan") D_say_shows.F T TP TQ TK MQ_look GQ_look b_Post_look
  have GK_undo := ok_say_undo (P := P) (w := w) (base := base) (CR := He.ga K "Rule") (CP := He.ga K "Plan") D_say_undo.F TQ TK MQ_undo GQ_undo b_Post_undo
  have acs := actionsB_ok (ex_at c.more 23 rfl) tb2
  have GS : ∀ c : Cmd, FnOk P w K mg base CX0 10 (He.ma K (He.ga K "Desk") "say") d_Desk_say ["self", "command"] (spSayX c.name (c.act K (He.ga K "Rule") (He.ga K "Plan") (He.ga K "Post") (He.ga K "Desk"))) := fun c => match c with
    | .plan => ok_say (P := P) (w := w) (base := base) F_Desk_say T TF g_ACTIONS D_read_place D_is_of D_has_form D_words_of (acs "plan" "say_plan" (by decide +kernel)) GK_plan D_say_plan.F.kp D_say_plan.b
    | .post => ok_say (P := P) (w := w) (base := base) F_Desk_say T TF g_ACTIONS D_read_place D_is_of D_has_form D_words_of (acs "post" "say_post" (by decide +kernel)) GK_post D_say_post.F.kp D_say_post.b
    | .send => ok_say (P := P) (w := w) (base := base) F_Desk_say T TF g_ACTIONS D_read_place D_is_of D_has_form D_words_of (acs "send" "say_send" (by decide +kernel)) GK_send D_say_send.F.kp D_say_send.b
    | .come => ok_say (P := P) (w := w) (base := base) F_Desk_say T TF g_ACTIONS D_read_place D_is_of D_has_form D_words_of (acs "come" "say_come" (by decide +kernel)) GK_come D_say_come.F.kp D_say_come.b
    | .shows => ok_say (P := P) (w := w) (base := base) F_Desk_say T TF g_ACTIONS D_read_place D_is_of D_has_form D_words_of (acs "shows" "say_shows" (by decide +kernel)) GK_shows D_say_shows.F.kp D_say_shows.b
    | .undo => ok_say (P := P) (w := w) (base := base) F_Desk_say T TF g_ACTIONS D_read_place D_is_of D_has_form D_words_of (acs "undo" "say_undo" (by decide +kernel)) GK_undo D_say_undo.F.kp D_say_undo.b
  have G_say : FnOk P w K mg base CX0 10 (He.ma K (He.ga K "Desk") "say") d_Desk_say ["self", "command"] (spSay K (He.ga K "Rule") (He.ga K "Plan") (He.ga K "Post") (He.ga K "Desk")) := Ov.FnOk.any .plan GS
  have G_plan := ok_planL (P := P) (w := w) (base := base) D_plan.F T.toTxB D_draw D_pick D_mixed D_tests_of D_law_deeds_of D_any_rule D_usual_rules D_raised
  have G_text := ok_text (P := P) (w := w) (base := base) D_text.F D_rule_text
  have G_command := ok_command (P := P) (w := w) (base := base) D_command.F T.toTxB n_str D_draw D_pick D_plan G_plan D_text G_text
  exact ok_law (He5.fun_of F) T.toTxB TQ TK g_Desk D_deal D_draw D_command G_command MK_say G_say b_Desk_say MQ_len GQ_len b_Post_len P_sent GQ_sent b_Post_sent mkK GK_init b_Desk_init
end Ov
open PySem PySem.W PySem.Calls PyProof.Rows
theorem PySem.Challenge.cw_overtaken_k70_whole_desks_by_turns_holds : PySem.Challenge.rw_overtaken_k70_whole_desks_by_turns.Holds := by
  w_on; o_law
  refine HandSHeadRun.head_any (r := OpenLaw.row PySem.Challenge.rw_overtaken_k70_whole_desks_by_turns) (q := view (OpenLaw.row PySem.Challenge.rw_overtaken_k70_whole_desks_by_turns).prog [135]) (H := Ov.hk) (ob := Ov.ob) (M := 16000) (loose := Ov.names) (d := HandSHeadRun.topDef (OpenLaw.row PySem.Challenge.rw_overtaken_k70_whole_desks_by_turns).prog 135) (kwd := []) Ov.ob_eq
    (by kernel_rfl) (fun s => by kernel_rfl) Ov.run (by kernel_rfl) (by kernel_rfl) (by kernel_rfl) (by rfl) (by first | assumption | decide +kernel) (by decide +kernel) ⟨rfl, rfl, rfl, rfl, rfl, by decide +kernel⟩ ?hw ?hc
  case hw => w_witness2
  case hc =>
    refine L2.walk_ofE (l := PySem.Challenge.rw_overtaken_k70_whole_desks_by_turns) (n := 63) (k := 12) (x := "_law_script") (CX := L2.CX0) rfl (by decide) (by kernel_rfl) ⟨rfl, by decide, by decide⟩ ?F (fun _ _ _ _ z => z)
    intro w mg fa h Y G hmg0
    obtain ⟨K, KX, c⟩ := Y
    have hmg : mg ("law" : PySem.Str) = some (.ref fa) := by
      have e : (HandSHeadRun.topDef (OpenLaw.row PySem.Challenge.rw_overtaken_k70_whole_desks_by_turns).prog 135).name = ("law" : PySem.Str) := by kernel_rfl
      rw [← e]
      exact hmg0
    obtain ⟨fd, hb, hF⟩ := Ov.facts (P := (PySem.Challenge.rw_overtaken_k70_whole_desks_by_turns).prog) (w := w) KX G hmg c
    exact ⟨K, fd, Ov.spLaw K, KX, hb, fun H a ns hl _ hS => ⟨a, ns, rfl, hS, hl, fun _ => rfl⟩, hF⟩

