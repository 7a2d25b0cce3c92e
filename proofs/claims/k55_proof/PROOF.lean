import PyProof.Rows.All
import Wide.All
import OpenK.AllK
import Wide.FinOn
import HandS.ForMost
import HandS.TupAny
import HandS.TupMul
import HandS.Conv
import HandS.Wide
import HandS.Style
import HandS.HeadHook1
import HandS.Lambda
import HandS.IsInst
import HandS.Zip
import HandS.Dict
import KE.GoesEnum
import OpenK.KOps
import HandS.List
import HandS.Ends
import HandS.HeadEnd
import HandS.More
import HandS.HeadHook3
import HandS.NoneIn
import HandS.Exc
import HandS.ExcOwn
import HandS.CallSlots
import HandS.WordsExc
import KE.KExcInit
import KE.KTryMore
import KE.KExcIs
import HandS.ExcIs
import HandS.ExcField
import HandS.EndTab
import HandS.HeadHook4
import HandS.Star
import HandS.Small
import HandS.Iter
import HandS.OwnEq
import PyProof.InstNe
import HandS.ExcValue
import KE.SortData
import KE.SortKeyHeap
import KE.KSortKey
import HandS.TupSets
import HandS.SetBool
import HandS.RevRange
import HandS.Deep
import PyProof.Rows.TupTab
import HandS.GenList
import HandS.SetFor
import HandS.Strs
import HandS.MakeKwOnly
import HandS.Rev
import KE.KDictDisplayH
import HandS.Text
import HandS.Sort
import KE.KTupSum
import HandS.TupLen
import PySem.Challenge.RW_bondwords_k55_sizes
import KE.KStateDown
import HandS.Head0
import HandS.Head1
import HandS.Head2
namespace DL
end DL
namespace L2
end L2
namespace PySem
end PySem
namespace L2G
end L2G
section
set_option Elab.async false
set_option linter.all false
set_option maxRecDepth 100000
namespace DL
open PySem L2
open PySem.W (Frag)
def wo (H : Hp) (X : List Addr) : Hp := fun a => if a ∈ X then none else match H a with
  | some (.tbl _) => none
  | o => o
end DL
set_option maxHeartbeats 1000000
set_option maxHeartbeats 1000000
set_option maxHeartbeats 1000000
set_option maxHeartbeats 1000000
set_option autoImplicit false
set_option maxHeartbeats 1000000
set_option maxHeartbeats 2000000
set_option maxHeartbeats 1000000
set_option maxHeartbeats 1000000
set_option maxHeartbeats 1000000
set_option maxHeartbeats 1000000
set_option maxHeartbeats 1000000
set_option maxHeartbeats 1000000
namespace DL
open PySem PySem.Spec PyProof.Rows L2
open PySem.W (Frag)
def exkB (K : Frag) (C : Addr) : Bool := xfB K C && ((PySem.W.clsIn K C).isSome && (decide (PySem.W.findIn K (.ref C) "__class__" = some (some (.builtin "object.__class__"))) && (decide (PySem.W.specialIn K (.builtin "object.__class__") "__get__" = some (some (.builtin "getset_descriptor.__get__"))) &&
  (decide (PySem.W.takesIn K (.builtin "object.__class__") = some true) && decide (PySem.W.mroIn K C (.type "object") = some true)))))
end DL
set_option maxHeartbeats 1000000
set_option maxHeartbeats 1000000
set_option maxHeartbeats 1000000
set_option maxHeartbeats 1000000
set_option maxHeartbeats 1000000
set_option maxHeartbeats 1000000
set_option maxHeartbeats 1000000
set_option maxHeartbeats 1000000
set_option maxHeartbeats 1000000
set_option maxHeartbeats 1000000
set_option maxHeartbeats 1000000
set_option maxHeartbeats 1000000
set_option maxHeartbeats 1000000
namespace BW
open PySem L2 DL
open PySem.W (Frag)
def tupIs (K : Frag) (v : Value) (ns : List Int) : Bool := match v with
  | .ref b => (match K.lookup b with
    | some ⟨.type c, _, .seq its _, _⟩ => decide (c = "tuple") && (decide (its.size ≤ sizeLine) && He.relAll (ns.map V.int) its.toList)
    | _ => false)
  | _ => false
def entB (K : Frag) : List DictEntry → List (Int × List Int) → Bool
  | [], [] => true
  | e :: es, (k, ns) :: r => (match e.key with | .int j _ => decide (j = k) && decide (e.hash = hashInt k) | _ => false) && (tupIs K e.val ns && entB K es r)
  | _, _ => false
def kdB (K : Frag) (x : PySem.Str) (kvs : List (Int × List Int)) : Bool := match K.lookup (He.ga K x) with
  | some ⟨.type c, none, .dict es _, sl⟩ => decide (c = "dict") && (sl.isEmpty && (!(He.ga K x == sysModules) && entB K es.toList kvs))
  | _ => false
end BW
set_option maxHeartbeats 1000000
namespace BW
open PySem L2 DL
open PySem.W (Frag)
abbrev bmV : List Value := [.type "ValueError", .type "Exception", .type "BaseException", .type "object"]
end BW
set_option maxHeartbeats 1000000
set_option autoImplicit false
namespace DL
open PySem PySem.Spec PyProof.Rows L2
open PySem.W (Frag)
def un0B (K : Frag) (x : PySem.Str) : Bool := PySem.W.excIn K (He.ga K x) BW.bmV "ValueError.__new__" && (PySem.W.keepIn K (.ref (He.ga K x)) && (decide (PySem.W.subIn K (.ref (He.ga K x)) (.type "BaseException") = some true) && decide (PySem.W.typeIn K (.ref (He.ga K x)) = some (.type "type"))))
end DL
set_option autoImplicit false
set_option maxHeartbeats 1000000
set_option maxHeartbeats 1000000
set_option maxHeartbeats 1000000
set_option maxHeartbeats 1000000
set_option maxHeartbeats 1000000
set_option maxHeartbeats 1000000
set_option maxHeartbeats 1000000
set_option autoImplicit false
set_option maxHeartbeats 1000000
set_option maxHeartbeats 1000000
set_option autoImplicit false
set_option maxHeartbeats 1000000
set_option maxHeartbeats 1000000
set_option maxHeartbeats 1000000
set_option autoImplicit false
set_option maxHeartbeats 1000000
namespace DL
open PySem L2 L2G
open PySem.W (Frag)
def sysB (K : Frag) : Bool := (K.lookup sysModules).isSome
end DL
set_option maxHeartbeats 1000000
set_option maxHeartbeats 1000000
set_option maxHeartbeats 1000000
set_option maxHeartbeats 1000000
set_option maxHeartbeats 1000000
set_option maxHeartbeats 1000000
set_option maxHeartbeats 1000000
set_option maxHeartbeats 1000000
set_option maxHeartbeats 1000000
set_option maxHeartbeats 1000000
set_option maxHeartbeats 1000000
set_option maxHeartbeats 1000000
set_option maxHeartbeats 1000000
set_option autoImplicit false
set_option maxHeartbeats 1000000
set_option autoImplicit false
set_option maxHeartbeats 1000000
set_option autoImplicit false
set_option maxHeartbeats 1000000
set_option autoImplicit false
set_option maxHeartbeats 1000000
set_option autoImplicit false
set_option maxHeartbeats 1000000
set_option maxHeartbeats 1000000
set_option maxHeartbeats 1000000
set_option maxHeartbeats 2000000
set_option maxHeartbeats 2000000
set_option maxHeartbeats 2000000
set_option maxHeartbeats 2000000
set_option maxHeartbeats 2000000
namespace BW
open PySem L2 DL
abbrev D11 : List PySem.Str := ["TooGreat", "BadBonds", "BadWord", "BadDeed", "BadText", "BadRow", "BadNumber", "BadChoice", "Unlike", "Endless", "NothingLeft"]
abbrev P4 : List (PySem.Str × PySem.Str × PySem.Str) := [("BadBonds", "bonds", "place"), ("BadWord", "word", "place"), ("BadDeed", "deed", "place"), ("BadText", "text", "place"), ("BadRow", "row", "value"), ("BadNumber", "number", "value"), ("BadChoice", "choice", "value")]
abbrev NHD : List PySem.Str := ["Endless"]
def hallB (K : PySem.W.Frag) : Bool := NHD.all (fun n => exkB K (He.ga K n)) && ((P4.filter fun p => NHD.contains p.1).all (fun p => decide (PySem.W.findIn K (.ref (He.ga K p.1)) p.2.2 = some none)) && ((!NHD.contains "TooGreat" || decide (PySem.W.findIn K (.ref (He.ga K "TooGreat")) "most" = some none)) &&
  (NHD.all (fun n => D11.all fun d => decide (PySem.W.kitOne K (.ref (He.ga K n)) (.ref (He.ga K d)) = some (decide (n = d)))) && NHD.all fun n => decide (PySem.W.kitOne K (.ref (He.ga K n)) (.type "ValueError") = some (!decide (n = "TooGreat"))))))
def exmHB (K : PySem.W.Frag) : Bool := NHD.all fun n => decide (PySem.W.exmAny K (.ref (He.ga K n)) [.ref (He.ga K "BondError"), .ref (He.ga K "TooGreat")] = some true)
end BW
set_option maxHeartbeats 1000000
set_option maxHeartbeats 1000000
set_option maxHeartbeats 1000000
set_option maxHeartbeats 1000000
set_option maxHeartbeats 1000000
set_option maxHeartbeats 1000000
set_option maxHeartbeats 1000000
set_option maxHeartbeats 1000000
set_option maxHeartbeats 1000000
set_option maxHeartbeats 1000000
set_option maxHeartbeats 1000000
set_option maxHeartbeats 1000000
set_option maxHeartbeats 1000000
set_option maxHeartbeats 1600000
set_option maxHeartbeats 1600000
set_option maxHeartbeats 1000000
set_option maxHeartbeats 1000000
set_option maxHeartbeats 1000000
set_option maxHeartbeats 1000000
set_option maxHeartbeats 3200000
set_option maxHeartbeats 1000000
set_option maxHeartbeats 1000000
set_option maxHeartbeats 1000000
set_option maxHeartbeats 1000000
set_option maxHeartbeats 1000000
set_option maxHeartbeats 1000000
set_option maxHeartbeats 1000000
set_option maxHeartbeats 1000000
set_option maxHeartbeats 1000000
set_option maxHeartbeats 1000000
set_option maxHeartbeats 1000000
set_option maxHeartbeats 1000000
set_option maxHeartbeats 1000000
set_option maxHeartbeats 1000000
set_option maxHeartbeats 1000000
set_option maxHeartbeats 1000000
set_option maxHeartbeats 1000000
set_option maxHeartbeats 1000000
set_option maxHeartbeats 1000000
set_option maxHeartbeats 1000000
set_option maxHeartbeats 1000000
set_option maxHeartbeats 1000000
set_option maxHeartbeats 1000000
set_option maxHeartbeats 1000000
set_option maxHeartbeats 1000000
set_option maxHeartbeats 1000000
set_option maxHeartbeats 1000000
set_option maxHeartbeats 1000000
set_option maxHeartbeats 1000000
set_option maxHeartbeats 1000000
set_option maxHeartbeats 1000000
set_option maxHeartbeats 1000000
set_option maxHeartbeats 1000000
set_option autoImplicit false
set_option maxHeartbeats 1600000
set_option maxHeartbeats 1000000
set_option maxHeartbeats 1000000
set_option maxHeartbeats 1000000
set_option maxHeartbeats 1000000
set_option autoImplicit false
set_option maxHeartbeats 1000000
set_option autoImplicit false
set_option maxHeartbeats 1000000
set_option maxHeartbeats 1000000
set_option maxHeartbeats 1000000
set_option maxHeartbeats 1000000
set_option maxHeartbeats 1000000
set_option maxHeartbeats 1000000
set_option autoImplicit false
set_option maxHeartbeats 1000000
set_option autoImplicit false
set_option maxHeartbeats 1000000
set_option autoImplicit false
set_option maxHeartbeats 1000000
set_option autoImplicit false
set_option maxHeartbeats 1000000
set_option autoImplicit false
set_option maxHeartbeats 1000000
set_option maxHeartbeats 1000000
set_option maxHeartbeats 1000000
set_option maxHeartbeats 1000000
set_option autoImplicit false
set_option maxHeartbeats 1000000
set_option autoImplicit false
set_option maxHeartbeats 1000000
set_option maxHeartbeats 1000000
set_option maxHeartbeats 1000000
set_option maxHeartbeats 1000000
set_option maxHeartbeats 1000000
set_option maxHeartbeats 1000000
set_option maxHeartbeats 1000000
set_option maxHeartbeats 1000000
set_option maxHeartbeats 1000000
set_option maxHeartbeats 1000000
set_option maxHeartbeats 1000000
set_option maxHeartbeats 1000000
set_option autoImplicit false
set_option maxHeartbeats 1000000
set_option autoImplicit false
set_option maxHeartbeats 1000000
set_option autoImplicit false
set_option maxHeartbeats 1000000
set_option autoImplicit false
set_option maxHeartbeats 1000000
set_option autoImplicit false
set_option maxHeartbeats 1000000
set_option autoImplicit false
set_option maxHeartbeats 1000000
set_option autoImplicit false
set_option maxHeartbeats 1000000
set_option autoImplicit false
set_option maxHeartbeats 1000000
set_option autoImplicit false
set_option maxHeartbeats 1000000
set_option autoImplicit false
set_option maxHeartbeats 1000000
set_option autoImplicit false
set_option maxHeartbeats 1000000
set_option autoImplicit false
set_option maxHeartbeats 1000000
set_option autoImplicit false
set_option maxHeartbeats 1000000
set_option maxHeartbeats 1000000
set_option autoImplicit false
set_option maxHeartbeats 1000000
set_option autoImplicit false
set_option maxHeartbeats 1000000
set_option maxHeartbeats 1000000
set_option maxHeartbeats 1000000
set_option autoImplicit false
set_option maxHeartbeats 1000000
set_option autoImplicit false
set_option maxHeartbeats 1000000
set_option autoImplicit false
set_option maxHeartbeats 1000000
set_option autoImplicit false
set_option maxHeartbeats 1000000
set_option autoImplicit false
set_option maxHeartbeats 1000000
set_option autoImplicit false
set_option maxHeartbeats 1000000
set_option maxHeartbeats 1000000
set_option autoImplicit false
set_option maxHeartbeats 1000000
set_option autoImplicit false
set_option autoImplicit false
set_option maxHeartbeats 1000000
set_option autoImplicit false
set_option maxHeartbeats 1000000
set_option autoImplicit false
set_option maxHeartbeats 1000000
set_option maxHeartbeats 1000000
set_option autoImplicit false
set_option maxHeartbeats 1000000
set_option maxHeartbeats 1000000
set_option maxHeartbeats 1000000
set_option maxHeartbeats 1000000
set_option maxHeartbeats 1000000
set_option autoImplicit false
set_option maxHeartbeats 1000000
set_option autoImplicit false
set_option maxHeartbeats 1000000
set_option autoImplicit false
set_option maxHeartbeats 1000000
set_option autoImplicit false
set_option maxHeartbeats 1000000
namespace BW
open PySem L2 DL
def top (i : Nat) : Stmt := PySem.Challenge.pw_bondwords_k55_sizes.main.body.getD i (.Pass ⟨0, 0, 0, 0⟩)
end BW
set_option maxHeartbeats 1000000
namespace BW
open PySem L2 DL
abbrev s_fewer_first : Stmt := top 30
abbrev lamQ_fewer_first : PySem.Str := (PyProof.Rows.envOfC "fewer_first" (defScope s_fewer_first) 0 0 .none).qual ++ "<lambda>"
abbrev s_law : Stmt := top 59
abbrev lamQ : PySem.Str := (PyProof.Rows.envOfC "law" (defScope s_law) 0 0 .none).qual ++ "<lambda>"
end BW
namespace BW
open PySem L2 DL
def memS (i j : Nat) : Stmt := match top i with
  | .ClassDef _ _ _ body .. => body.getD j (.Pass ⟨0, 0, 0, 0⟩)
  | _ => .Pass ⟨0, 0, 0, 0⟩
end BW
namespace BW
open PySem L2 DL
def frS (g : Addr → Option Obj) (n : Nat) : PySem.W.Frag := He.frT g (sysModules :: He.asD g n)
section
variable {n : Nat} {fa : List He.Fa} {fn : List He.DefD} {ts : List He.Tab} {tf : List He.Defn} {ex : PySem.W.Frag → Bool} {w : World} {h : Heap}
theorem says_any {as : List Addr} (e : ((He.obsT fa fn ts (He.frT h.get? as), ex (He.frT h.get? as) && He.tabsB h.get? tf (He.frT h.get? as)) : He.AlX) = He.valX fn ts w) : He.SaysX fa fn ts tf ex w h (He.frT h.get? as) := by
  have i1 := (Prod.mk.inj e).1
  have i2 := Bool.and_eq_true_iff.mp (Prod.mk.inj e).2
  have tab : ∀ p ∈ tf, PySem.W.codeHdIn (He.frT h.get? as) (He.cT (He.frT h.get? as) p).1 (He.cT (He.frT h.get? as) p).2 = true ∧ ∃ o, h.get? (He.cT (He.frT h.get? as) p).2 = some o ∧ He.emptyTab o = true := fun p hp => by
    have j := Bool.and_eq_true_iff.mp (List.all_eq_true.mp i2.2 p hp)
    refine ⟨j.1, ?_⟩
    have j2 := j.2
    revert j2
    cases h.get? (He.cT (He.frT h.get? as) p).2 with
    | none => exact fun z => (Bool.false_ne_true z).elim
    | some o => exact fun z => ⟨o, rfl, z⟩
  refine { t := i1, more := i2.1, hd := fun p hp => (tab p hp).1, out := fun p hp => ?_, empty := fun p hp => ?_ }
  · have ⟨_, o, q, z⟩ := tab p hp
    exact He.frT_none q z
  · have ⟨_, o, q, z⟩ := tab p hp
    exact q.trans (congrArg some (He.emptyTab_eq z))
end
def obsS (n : Nat) (fa : List He.Fa) (fn : List He.DefD) (ts : List He.Tab) (tf : List He.Defn) (ex : PySem.W.Frag → Bool) (g : Addr → Option Obj) : He.AlX :=
  (He.obsT fa fn ts (frS g n), ex (frS g n) && He.tabsB g tf (frS g n))
def hookS (n : Nat) (fa : List He.Fa) (fn : List He.DefD) (ts : List He.Tab) (tf : List He.Defn) (ex : PySem.W.Frag → Bool) : PySem.W.Hook :=
  { α := He.AlX, obs := fun s => obsS n fa fn ts tf ex s.heap.get?, val := He.valX fn ts, says := fun w h => ∃ K : PySem.W.Frag, K.In h ∧ He.SaysX fa fn ts tf ex w h K,
    of := fun _ _ e => ⟨_, He.frT_in, says_any e⟩, keeps := (He.hookX n fa fn ts tf ex).keeps }
end BW
namespace BW
open PySem L2 DL
abbrev dd (x : PySem.Str) (i : Nat) : He.DefD := ⟨(x, none), x, x, defArgs (top i), defBody (top i), defScope (top i), [], []⟩
abbrev dm (x m q : PySem.Str) (i j : Nat) : He.DefD := ⟨(x, some m), m, q, defArgs (memS i j), defBody (memS i j), defScope (memS i j), [], []⟩
def fn : List He.DefD := [dd "is_whole" 20, dd "can_stand" 23, dd "check_shape" 24, dd "check_table" 25, dd "weight_of" 26, dd "weights_from" 27, dd "fewer_first" 30, dd "first_row" 32, dd "pressed" 33, dd "choices_of" 35, dd "all_letters" 37, dd "longest_within" 38, dd "is_finite" 39, dd "check_number" 41, dd "sign_of" 42, dd "parts_of" 43, dd "one_divided" 44, dd "inverse" 45, dd "counts" 46, dd "size" 47, dd "_law_mixed" 49, dd "_law_folded" 50, dd "_law_draw" 51, dd "_law_begun" 52, dd "_law_like" 53, dd "_law_table" 54, dd "_law_finite" 55, dd "_law_shuffled" 56, dd "_law_heard" 57, dd "_law_line" 58, dd "law" 59, dm "Bonds" "__init__" "Bonds.__init__" 28 0, dm "Bonds" "__len__" "Bonds.__len__" 28 1]
def fa : List He.Fa := [.glo "is_whole", .glo "can_stand", .glo "check_shape", .glo "check_table", .glo "weight_of", .glo "weights_from", .glo "fewer_first", .glo "first_row", .glo "pressed", .glo "choices_of", .glo "all_letters", .glo "longest_within", .glo "is_finite", .glo "check_number", .glo "sign_of", .glo "parts_of", .glo "one_divided", .glo "inverse", .glo "counts", .glo "size", .glo "_law_mixed", .glo "_law_folded", .glo "_law_draw", .glo "_law_begun", .glo "_law_like", .glo "_law_table", .glo "_law_finite", .glo "_law_shuffled", .glo "_law_heard", .glo "_law_line", .glo "law", .free "isinstance", .free "int", .free "bool", .free "list", .free "tuple", .free "len", .free "range", .free "sorted", .free "zip", .free "all", .free "sum", .free "enumerate", .free "repr", .free "ValueError", .int "MOST_LETTERS" (6), .int "MOST_WORD" (60), .int "OWN_BOND" (1), .int "OWN_WEIGHT" (-2), .glo "Bonds", .cls "Bonds", .noat "Bonds" "table", .noat "Bonds" "weights", .mkr "Bonds", .meth "Bonds" "__len__", .glo "WEIGHTS", .glo "BondError", .glo "BadBonds", .glo "BadWord", .glo "BadRow", .glo "BadDeed", .glo "BadNumber", .glo "Unlike", .glo "TooGreat", .glo "BadText", .glo "BadChoice", .glo "Endless", .glo "NothingLeft"]
def wts0 : List (Int × List Int) := [(2, [0, 0]), (3, [1, 1]), (4, [1, 2]), (6, [1, 3]), (0, [2, 2])]
def tabL : List He.Tab := []
abbrev lamL : List ((PySem.Str × Option PySem.Str) × PySem.Str) := [(("fewer_first", none), lamQ_fewer_first), (("law", none), lamQ)]
abbrev tfL : List (PySem.Str × Option PySem.Str) := [("fewer_first", none), ("law", none)]
def ndB (K : PySem.W.Frag) : Bool := decide ((lamL.map fun x => (He.cT K x.1).2).Nodup)
def exB (K : PySem.W.Frag) : Bool := sysB K && (kdB K "WEIGHTS" wts0 && (ndB K && (((hallB K && (exmHB K && ((un0B K "Endless" && (true)))))))))
abbrev R : PySem.W.OpenRow := PySem.W.OpenLaw.row PySem.Challenge.rw_bondwords_k55_sizes
abbrev hk : PySem.W.Hook := hookS 4 fa fn tabL tfL exB
def ob (s : PySem.W.SharedT) : He.AlX := obsS 4 fa fn tabL tfL exB (HandSHeadRun.getT s)
def names0 : List PySem.Str := ["_wall", "__name__", "BondError", "BadBonds", "BadWord", "BadRow", "BadDeed", "BadNumber", "Unlike", "BadChoice", "BadText", "NothingLeft", "Endless", "TooGreat", "MOST_LETTERS", "MOST_WORD", "WEIGHTS", "OWN_BOND", "OWN_WEIGHT", "is_whole", "is_letter", "check_letters", "can_stand", "check_shape", "check_table", "weight_of", "weights_from", "Bonds", "fewer_first", "first_row"]
def names1 : List PySem.Str := ["pressed", "choices_of", "all_letters", "longest_within", "is_finite", "check_number", "sign_of", "parts_of", "one_divided", "inverse", "counts", "size", "_law_mixed", "_law_folded", "_law_draw", "_law_begun", "_law_like", "_law_table", "_law_finite", "_law_shuffled", "_law_heard", "_law_line"]
abbrev names : List PySem.Str := names0 ++ names1
end BW
set_option maxHeartbeats 0
namespace BW
open PySem PySem.Spec PyProof.Rows L2
abbrev PR (w : World) : Prop := HandSHeadRun.RunEq R (PySem.W.view R.prog [59]) hk ob 6000 names w
theorem run0 (w : World) : PR (w.withFollow "special-get-raises" false) := fun os => by kernel_rfl
theorem run1 (w : World) : PR (w.withFollow "special-get-raises" true) := fun os => by kernel_rfl
end BW
open PySem PySem.W PyProof.Rows
end
set_option Elab.async false
set_option linter.all false
set_option maxRecDepth 100000
namespace DL
open PySem L2
open PySem.W (Frag)
inductive D where
  | non | bl (b : Bool) | int (i : Int) | str (x : PySem.Str)
  | lst (xs : List D) | tup (xs : List D) | dic | ins (C : Addr) (ns : List PySem.Str) (xs : List D)
  | exc (n : PySem.Str) (ns : List PySem.Str) (xs : List D)
  | dct (ks : List (List Int)) (xs : List D)
def xob (a : Addr) (cls : Value) (dd : Option Addr) : HO := .ext fun h => ∃ oe vs, h.get? a = some oe ∧ (oe.cls = cls ∧ oe.dict = dd) ∧ oe.data = .fields vs
def ExF (H : Hp) (dd : Option Addr) (ns : List PySem.Str) (vs : List V) : Prop := (ns = [] ∧ dd = none) ∨ ∃ d, dd = some d ∧ H d = some (.xd (ns.zip vs))
def hashT (r : List Int) : Int := reduceHash (Builtin.Tuple.tupleHashOf (r.map hashInt))
abbrev Ve := Addr × List Int × V
abbrev kVs (L : List Ve) : List (List Int) := L.map (·.2.1)
def DvE (p : Addr) (L : List Ve) (lk : Option Obj) (h : Heap) : Prop := ∃ o es ep, h.get? p = some o ∧ (∀ o2, lk = some o2 → o2 = o) ∧ o.ExactDict ∧ o.data = .dict es ep ∧ (p == sysModules) = false ∧ ∃ us : List Value, us.length = L.length ∧ (∀ (i : Nat) (x : Ve) (u : Value), L[i]? = some x → us[i]? = some u → RelV x.2.2 u) ∧
  es.toList = (L.zip us).map (fun y => (⟨hashT y.1.2.1, .ref y.1.1, y.2⟩ : DictEntry)) ∧ (kVs L).Nodup
mutual
inductive Rl (K : Frag) (H : Hp) : V → D → Prop
  | non : Rl K H .non .non
  | bl (b : Bool) : Rl K H (.bl b) (.bl b)
  | int (i : Int) : Rl K H (.int i) (.int i)
  | str (x : PySem.Str) : Rl K H (.str x) (.str x)
  | lst {a : Addr} {vs : List V} {ds : List D} : H a = some (.lst vs) → RlA K H vs ds → Rl K H (.ref a) (.lst ds)
  | tup {a : Addr} {vs : List V} {ds : List D} : SqT K H a vs → RlA K H vs ds → Rl K H (.ref a) (.tup ds)
  | dic {a : Addr} : H a = some (.dK []) → Rl K H (.ref a) .dic
  | ins {a C dx : Addr} {ns : List PySem.Str} {vs : List V} {ds : List D} : H a = some (.ins C dx (ns.zip vs)) → ns.length = vs.length → RlA K H vs ds → Rl K H (.ref a) (.ins C ns ds)
  | exc {a : Addr} {n : PySem.Str} {dd : Option Addr} {ns : List PySem.Str} {vs : List V} {ds : List D} : H a = some (xob a (.ref (He.ga K n)) dd) → ExF H dd ns vs → ns.length = vs.length → RlA K H vs ds → Rl K H (.ref a) (.exc n ns ds)
  | dct {a : Addr} {L : List Ve} {o : Obj} {ks : List (List Int)} {vs : List V} {ds : List D} : H a = some (.ext (DvE a L (some o))) → (∀ x ∈ L, SqT K H x.1 (x.2.1.map V.int)) → kVs L = ks → L.map (·.2.2) = vs → RlA K H vs ds → Rl K H (.ref a) (.dct ks ds)
inductive RlA (K : Frag) (H : Hp) : List V → List D → Prop
  | nil : RlA K H [] []
  | cons {v : V} {vs : List V} {d : D} {ds : List D} : Rl K H v d → RlA K H vs ds → RlA K H (v :: vs) (d :: ds)
end
def Sub (A B : Hp) : Prop := ∀ a o, A a = some o → B a = some o
theorem Sub.refl (A : Hp) : Sub A A := fun _ _ h => h
theorem Sub.trans {A B C : Hp} (x : Sub A B) (y : Sub B C) : Sub A C := fun a o h => y a o (x a o h)
theorem Sub.rd {A B : Hp} (x : Sub A B) {a : Addr} {u : HO} (h : Rd A a u) : Rd B a u := by
  rcases h with h | ⟨o, h⟩
  · exact .inl (x _ _ h)
  · exact .inr ⟨o, x _ _ h⟩
theorem Sub.sl {K : Frag} {A B : Hp} (x : Sub A B) {a : Addr} {vs : List V} (h : SqL K A a vs) : SqL K B a vs := by
  rcases h with h | h
  · exact .inl (x.rd h)
  · exact .inr h
theorem Sub.st {K : Frag} {A B : Hp} (x : Sub A B) {a : Addr} {vs : List V} (h : SqT K A a vs) : SqT K B a vs := by
  rcases h with h | h
  · exact .inl (x.rd h)
  · exact .inr h
theorem ExF.mono {A B : Hp} (x : Sub A B) {dd : Option Addr} {ns : List PySem.Str} {vs : List V} (h : ExF A dd ns vs) : ExF B dd ns vs := h.imp id fun ⟨d, e, q⟩ => ⟨d, e, x _ _ q⟩
mutual
theorem Rl.mono {K : Frag} {A B : Hp} (x : Sub A B) : ∀ {v : V} {d : D}, Rl K A v d → Rl K B v d
  | _, _, .non => .non
  | _, _, .bl b => .bl b
  | _, _, .int i => .int i
  | _, _, .str s => .str s
  | _, _, .lst h r => .lst (x _ _ h) (RlA.mono x r)
  | _, _, .tup h r => .tup (x.st h) (RlA.mono x r)
  | _, _, .dic h => .dic (x _ _ h)
  | _, _, .ins h l r => .ins (x _ _ h) l (RlA.mono x r)
  | _, _, .exc h f l r => .exc (x _ _ h) (f.mono x) l (RlA.mono x r)
  | _, _, .dct h k e1 e2 r => .dct (x _ _ h) (fun y hy => x.st (k y hy)) e1 e2 (RlA.mono x r)
theorem RlA.mono {K : Frag} {A B : Hp} (x : Sub A B) : ∀ {vs : List V} {ds : List D}, RlA K A vs ds → RlA K B vs ds
  | _, _, .nil => .nil
  | _, _, .cons h r => .cons (Rl.mono x h) (RlA.mono x r)
end
theorem RlA.len {K : Frag} {A : Hp} : ∀ {vs : List V} {ds : List D}, RlA K A vs ds → vs.length = ds.length
  | _, _, .nil => rfl
  | _, _, .cons _ r => congrArg (· + 1) (RlA.len r)
theorem RlA.get {K : Frag} {A : Hp} : ∀ {vs : List V} {ds : List D} {i : Nat} {v : V}, RlA K A vs ds → vs[i]? = some v → ∃ d, ds[i]? = some d ∧ Rl K A v d
  | _, _, _, _, .nil, e => by simp at e
  | _, _, 0, _, .cons h _, e => by simp at e; subst e; exact ⟨_, rfl, h⟩
  | _, _, i + 1, v, .cons _ r, e => by
    obtain ⟨d, h1, h2⟩ := RlA.get (i := i) (v := v) r (by simpa using e)
    exact ⟨d, by simpa using h1, h2⟩
theorem RlA.getD {K : Frag} {A : Hp} : ∀ {vs : List V} {ds : List D} {i : Nat} {d : D}, RlA K A vs ds → ds[i]? = some d → ∃ v, vs[i]? = some v ∧ Rl K A v d
  | _, _, _, _, .nil, e => by simp at e
  | _, _, 0, _, .cons h _, e => by simp at e; subst e; exact ⟨_, rfl, h⟩
  | _, _, i + 1, d, .cons _ r, e => by
    obtain ⟨v, h1, h2⟩ := RlA.getD (i := i) (d := d) r (by simpa using e)
    exact ⟨v, by simpa using h1, h2⟩
theorem RlA.app {K : Frag} {A : Hp} : ∀ {vs us : List V} {ds es : List D}, RlA K A vs ds → RlA K A us es → RlA K A (vs ++ us) (ds ++ es)
  | _, _, _, _, .nil, s => s
  | _, _, _, _, .cons h r, s => .cons h (RlA.app r s)
theorem RlA.take {K : Frag} {A : Hp} : ∀ {vs : List V} {ds : List D} (n : Nat), RlA K A vs ds → RlA K A (vs.take n) (ds.take n)
  | _, _, 0, _ => .nil
  | _, _, _ + 1, .nil => .nil
  | _, _, n + 1, .cons h r => .cons h (RlA.take n r)
theorem RlA.drop {K : Frag} {A : Hp} : ∀ {vs : List V} {ds : List D} (n : Nat), RlA K A vs ds → RlA K A (vs.drop n) (ds.drop n)
  | _, _, 0, r => r
  | _, _, _ + 1, .nil => .nil
  | _, _, n + 1, .cons _ r => RlA.drop n r
theorem RlA.set {K : Frag} {A : Hp} {v : V} {d : D} (h : Rl K A v d) : ∀ {vs : List V} {ds : List D} (i : Nat), RlA K A vs ds → RlA K A (vs.set i v) (ds.set i d)
  | _, _, _, .nil => .nil
  | _, _, 0, .cons _ r => .cons h r
  | _, _, i + 1, .cons q r => .cons q (RlA.set h i r)
theorem RlA.rev {K : Frag} {A : Hp} : ∀ {vs : List V} {ds : List D}, RlA K A vs ds → RlA K A vs.reverse ds.reverse
  | _, _, .nil => .nil
  | _, _, .cons h r => by
    rw [List.reverse_cons, List.reverse_cons]
    exact (RlA.rev r).app (.cons h .nil)
theorem RlA.ints {K : Frag} {A : Hp} : ∀ (ns : List Int), RlA K A (ns.map V.int) (ns.map D.int)
  | [] => .nil
  | n :: r => .cons (.int n) (RlA.ints r)
theorem RlA.ints_v {K : Frag} {A : Hp} : ∀ {ns : List Int} {vs : List V}, RlA K A vs (ns.map D.int) → vs = ns.map V.int
  | [], _, .nil => rfl
  | n :: r, _, .cons h q => by
    cases h
    rw [RlA.ints_v q]
    rfl
def NoTb (o : HO) : Prop := ∀ ps, o ≠ .tbl ps
theorem wo_all {H : Hp} {X : List Addr} {a : Addr} {o : HO} (h : wo H X a = some o) : a ∉ X ∧ H a = some o ∧ NoTb o := by
  unfold wo at h
  split at h
  · cases h
  · refine ⟨by assumption, ?_⟩
    split at h
    · cases h
    · rename_i n
      refine ⟨h, fun ps e => ?_⟩
      subst e
      exact n _ h
theorem wo_sub (H : Hp) (X : List Addr) : Sub (wo H X) H := fun a o h => (wo_all h).2.1
theorem wo_ne {H : Hp} {X : List Addr} {a : Addr} {o : HO} (h : wo H X a = some o) : a ∉ X ∧ H a = some o := ⟨(wo_all h).1, (wo_all h).2.1⟩
theorem wo_tb {H : Hp} {X : List Addr} {a : Addr} {o : HO} (h : wo H X a = some o) : NoTb o := (wo_all h).2.2
theorem wo_of {H : Hp} {X : List Addr} {a : Addr} {o : HO} (hx : a ∉ X) (h : H a = some o) (ht : NoTb o := by first | (intro _ z; cases z; done) | exact wo_tb (by assumption)) : wo H X a = some o := by
  unfold wo
  rw [if_neg hx, h]
  cases o <;> first | rfl | exact absurd rfl (ht _)
structure TbK (A B : Hp) : Prop where
  tabs : ∀ T, LamX.Tabs T A → LamX.Tabs T B
  tbl : ∀ p ps, A p = some (.tbl ps) → ∃ qs, B p = some (.tbl qs)
  tup : ∀ a vs, Rd A a (.tup vs) → Rd B a (.tup vs)
theorem TbK.refl {A : Hp} : TbK A A := ⟨fun _ h => h, fun _ _ h => ⟨_, h⟩, fun _ _ h => h⟩
theorem TbK.st {K : Frag} {A B : Hp} (x : TbK A B) {a : Addr} {vs : List V} (h : SqT K A a vs) : SqT K B a vs := h.imp (x.tup a vs) id
theorem TbK.trans {A B C : Hp} (x : TbK A B) (y : TbK B C) : TbK A C := ⟨fun T h => y.tabs T (x.tabs T h), fun p ps h => by
  obtain ⟨qs, e⟩ := x.tbl p ps h
  exact y.tbl p qs e, fun a vs h => y.tup a vs (x.tup a vs h)⟩
def Firm (a : Addr) (o : HO) : Prop := (∃ ps, o = .tbl ps) ∨ (∃ q, o = LamX.CodeO a q) ∨ (∃ vs, o = .tup vs) ∨ ∃ ob vs, o = .frz ob (.tup vs)
theorem TbK.of {A B : Hp} (h : ∀ a o, A a = some o → Firm a o → B a = some o) : TbK A B := ⟨fun T t p hp => by
  obtain ⟨ps, h1, h2, h3⟩ := t p hp
  refine ⟨ps, h _ _ h1 (.inl ⟨_, rfl⟩), h2, fun pos cv hc => ?_⟩
  obtain ⟨c, e1, e2⟩ := h3 pos cv hc
  exact ⟨c, e1, h _ _ e2 (.inr (.inl ⟨_, rfl⟩))⟩, fun p ps e => ⟨ps, h _ _ e (.inl ⟨_, rfl⟩)⟩, fun a vs e => by
  rcases e with e | ⟨o, e⟩
  · exact .inl (h _ _ e (.inr (.inr (.inl ⟨_, rfl⟩))))
  · exact .inr ⟨o, h _ _ e (.inr (.inr (.inr ⟨_, _, rfl⟩)))⟩⟩
theorem TbK.upd {H : Hp} {p : Addr} {o : HO} (h : ∀ u, H p = some u → ¬ Firm p u) : TbK H (upd H p o) := .of fun a u e k => by
  by_cases z : a = p
  · subst z; exact absurd k (h u e)
  · rw [upd_ne z]; exact e
theorem TbK.new {H : Hp} {p : Addr} {o : HO} (h : H p = none) : TbK H (L2.upd H p o) := .upd fun u e => by rw [h] at e; cases e
theorem TbK.at_ {H : Hp} {p : Addr} {o u : HO} (h : H p = some u) (h1 : NoTb u := by intro _ z; cases z) (h2 : ∀ q, u ≠ LamX.CodeO p q := by intro _ z; cases z) (h3 : ∀ vs, u ≠ .tup vs := by intro _ z; cases z) (h4 : ∀ ob vs, u ≠ .frz ob (.tup vs) := by intro _ _ z; cases z) : TbK H (L2.upd H p o) := .upd fun v e => by
  rw [h] at e; cases e
  rintro (⟨ps, z⟩ | ⟨q, z⟩ | ⟨vs, z⟩ | ⟨ob, vs, z⟩)
  · exact h1 _ z
  · exact h2 _ z
  · exact h3 _ z
  · exact h4 _ _ z
theorem wo_more {H : Hp} {X Y : List Addr} (h : ∀ a ∈ X, a ∈ Y) : Sub (wo H Y) (wo H X) := fun a o e => by
  obtain ⟨n, e⟩ := wo_ne e
  exact wo_of (fun z => n (h a z)) e
theorem wo_new {H : Hp} {X : List Addr} {p : Addr} {o : HO} (hp : H p = none) : Sub (wo H X) (wo (upd H p o) X) := fun a u e => by
  obtain ⟨n, e⟩ := wo_ne e
  exact wo_of n (by rw [upd_ne (ne_of_none e hp)]; exact e)
theorem wo_mut {H : Hp} {X : List Addr} {p : Addr} {o : HO} (hp : p ∈ X) : Sub (wo H X) (wo (upd H p o) X) := fun a u e => by
  obtain ⟨n, e⟩ := wo_ne e
  exact wo_of n (by rw [upd_ne (fun z => n (by rw [z]; exact hp))]; exact e)
structure Kn where
  K : Frag
  N : List Int → Int
  Z : List (List Int)
structure Mc where
  (pm pc pg : Addr)
  T : List (Addr × PySem.Str)
  kd : Option Kn := none
def Ml : Option Mc → List Addr
  | none => []
  | some m => [m.pm, m.pc, m.pg]
structure MOk (m : Mc) (H : Hp) (cs gs : List Int) (n : Nat) : Prop where
  hm : H m.pm = some (.dK [(Sum.inr "cells", .ref m.pc), (Sum.inr "great", .ref m.pg), (Sum.inr "spot", .int n)])
  hc : H m.pc = some (.lst (cs.map V.int))
  hg : H m.pg = some (.lst (gs.map V.int))
  lc : cs.length = 64
  bc : ∀ x ∈ cs, 0 ≤ x ∧ x < 2147483647
  lg : gs.length ≤ 63
  bg : ∀ x ∈ gs, 0 ≤ x
def DiE (p : Addr) (L : List (Addr × List Int × Int)) (h : Heap) : Prop := ∃ o es ep, h.get? p = some o ∧ o.ExactDict ∧ o.data = .dict es ep ∧ (p == sysModules) = false ∧ ∃ us : List Value, us.length = L.length ∧ (∀ (i : Nat) (x : Addr × List Int × Int) (u : Value), L[i]? = some x → us[i]? = some u → ∃ t, u = .int x.2.2 t) ∧
  es.toList = (L.zip us).map (fun y => (⟨hashT y.1.2.1, .ref y.1.1, y.2⟩ : DictEntry)) ∧ (L.map (·.2.1)).Nodup
structure KOk (m : Mc) (kn : Kn) (H : Hp) (L : List (Addr × List Int × Int)) : Prop where
  hp : H m.pm = some (.ext (DiE m.pm L))
  pc : m.pc = m.pm
  pg : m.pg = m.pm
  keys : ∀ x ∈ L, SqT kn.K H x.1 (x.2.1.map V.int)
  val : ∀ x ∈ L, x.2.2 = kn.N x.2.1
  z : ∀ x ∈ L, x.2.1 ∈ kn.Z
  nd : (L.map (·.2.1)).Nodup
  lz : kn.Z.length ≤ 100000
  tb : LamX.Tabs m.T H
def MAt (m : Option Mc) (H : Hp) (k : Nat) : Prop := match m with
  | none => True
  | some m => match m.kd with
    | none => ∃ cs gs n, MOk m H cs gs n ∧ n ≤ k ∧ LamX.Tabs m.T H
    | some kn => ∃ L, KOk m kn H L
theorem MAt.dr {m : Mc} {H : Hp} {k : Nat} (hk : m.kd = none) (h : MAt (some m) H k) : ∃ cs gs n, MOk m H cs gs n ∧ n ≤ k ∧ LamX.Tabs m.T H := by
  unfold MAt at h
  dsimp only at h
  rw [hk] at h
  exact h
theorem MAt.of {m : Mc} {H : Hp} {k : Nat} (hk : m.kd = none) (h : ∃ cs gs n, MOk m H cs gs n ∧ n ≤ k ∧ LamX.Tabs m.T H) : MAt (some m) H k := by
  unfold MAt
  dsimp only
  rw [hk]
  exact h
theorem MAt.kn {m : Mc} {kn : Kn} {H : Hp} {k : Nat} (hk : m.kd = some kn) (h : MAt (some m) H k) : ∃ L, KOk m kn H L := by
  unfold MAt at h
  dsimp only at h
  rw [hk] at h
  exact h
theorem MAt.ofK {m : Mc} {kn : Kn} {H : Hp} {k : Nat} (hk : m.kd = some kn) (h : ∃ L, KOk m kn H L) : MAt (some m) H k := by
  unfold MAt
  dsimp only
  rw [hk]
  exact h
theorem MAt.tabs {m : Mc} {H : Hp} {k : Nat} (h : MAt (some m) H k) : LamX.Tabs m.T H := by
  cases e : m.kd with
  | none =>
    obtain ⟨_, _, _, _, _, q⟩ := h.dr e
    exact q
  | some kn =>
    obtain ⟨_, o⟩ := h.kn e
    exact o.tb
theorem MAt.mono {m : Option Mc} {H : Hp} {j k : Nat} (h : MAt m H j) (l : j ≤ k) : MAt m H k := by
  cases m with
  | none => trivial
  | some m =>
    cases e : m.kd with
    | none =>
      obtain ⟨cs, gs, n, o, q⟩ := h.dr e
      exact .of e ⟨cs, gs, n, o, Nat.le_trans q.1 l, q.2⟩
    | some kn => exact .ofK e (h.kn e)
theorem MAt.eq {m : Option Mc} {H H' : Hp} {k : Nat} (h : MAt m H k) (e : ∀ a ∈ Ml m, H a ≠ none → H' a = H a) (t : TbK H H') : MAt m H' k := by
  cases m with
  | none => trivial
  | some m =>
    cases ek : m.kd with
    | none =>
      obtain ⟨cs, gs, n, o, q⟩ := h.dr ek
      have e1 := e m.pm (by simp [Ml]) (by rw [o.hm]; simp)
      have e2 := e m.pc (by simp [Ml]) (by rw [o.hc]; simp)
      have e3 := e m.pg (by simp [Ml]) (by rw [o.hg]; simp)
      exact .of ek ⟨cs, gs, n, ⟨e1.trans o.hm, e2.trans o.hc, e3.trans o.hg, o.lc, o.bc, o.lg, o.bg⟩, q.1, t.tabs _ q.2⟩
    | some kn =>
      obtain ⟨L, o⟩ := h.kn ek
      have e1 := e m.pm (by simp [Ml]) (by rw [o.hp]; simp)
      exact .ofK ek ⟨L, e1.trans o.hp, o.pc, o.pg, fun x hx => t.st (o.keys x hx), o.val, o.z, o.nd, o.lz, t.tabs _ o.tb⟩
theorem MAt.there {m : Option Mc} {H : Hp} {k : Nat} (h : MAt m H k) : ∀ a ∈ Ml m, H a ≠ none := by
  cases m with
  | none => intro a ha; simp [Ml] at ha
  | some m =>
    cases ek : m.kd with
    | none =>
      obtain ⟨cs, gs, n, o, q⟩ := h.dr ek
      intro a ha
      simp [Ml] at ha
      rcases ha with rfl | rfl | rfl
      · rw [o.hm]; simp
      · rw [o.hc]; simp
      · rw [o.hg]; simp
    | some kn =>
      obtain ⟨L, o⟩ := h.kn ek
      intro a ha
      simp [Ml] at ha
      have : a = m.pm := by
        rcases ha with rfl | rfl | rfl
        · rfl
        · exact o.pc
        · exact o.pg
      rw [this, o.hp]; simp
inductive Sl where
  | no | dat (d : D) | own (p : Addr) (ds : List D) | mst | scr (ns : List Int) | kds (N : List Int → Int) (Z : List (List Int))
structure S where
  X : List Addr
  sl : List Sl
  k : Nat
structure C where
  K : Frag
  M : Option Mc
  X0 : List Addr
  H0 : Hp
  ow : List Nat := []
abbrev C.hid (c : C) (X : List Addr) (H : Hp) : Hp := wo H (Ml c.M ++ X)
def SlOk (c : C) (X : List Addr) (H : Hp) (x : Option (Option V)) : Sl → Prop
  | .no => True
  | .dat d => ∃ v, x = some (some v) ∧ Rl c.K (c.hid X H) v d
  | .own p ds => x = some (some (.ref p)) ∧ p ∈ X ∧ p ∉ c.X0 ∧ c.H0 p = none ∧ ∃ vs, H p = some (.lst vs) ∧ RlA c.K (c.hid X H) vs ds
  | .mst => ∃ m, (c.M = some m ∧ m.kd = none) ∧ x = some (some (.ref m.pm))
  | .kds N Z => ∃ m, (c.M = some m ∧ m.kd = some ⟨c.K, N, Z⟩) ∧ x = some (some (.ref m.pm))
  | .scr ns => ∃ a, x = some (some (.ref a)) ∧ SqL c.K (c.hid X H) a (ns.map V.int)
structure Rep (c : C) (s : S) (σ : L2.St) (H : Hp) : Prop where
  sub : Sub (c.hid c.X0 c.H0) (c.hid s.X H)
  old : ∀ a ∈ c.X0, a ∉ Ml c.M → c.H0 a ≠ none → H a = c.H0 a
  x0 : ∀ a ∈ c.X0, a ∈ s.X
  xm : ∀ a ∈ s.X, a ∉ Ml c.M
  xs : ∀ a ∈ s.X, H a ≠ none
  m : MAt c.M H s.k
  slot : ∀ (i : Nat) (x : Sl), s.sl[i]? = some x → SlOk c s.X H σ[i]? x
  apart : ∀ (i j : Nat) (p q : Addr) (ds es : List D), s.sl[i]? = some (.own p ds) → s.sl[j]? = some (.own q es) → i ≠ j → p ≠ q
  len : s.sl.length = σ.length
  tb : TbK c.H0 H
  xt : ∀ a ∈ s.X, ∀ ps, H a ≠ some (.tbl ps)
def Adv (c : C) (s : S) (H : Hp) (s' : S) (H' : Hp) : Prop := Sub (c.hid s.X H) (c.hid s'.X H')
theorem Adv.refl {c : C} {s : S} {H : Hp} : Adv c s H s H := Sub.refl _
abbrev S.at (s : S) (k : Nat) : S := { s with k := k }
theorem Rep.more {c : C} {s : S} {σ : L2.St} {H : Hp} {k : Nat} (r : Rep c s σ H) (h : s.k ≤ k) : Rep c (s.at k) σ H := ⟨r.sub, r.old, r.x0, r.xm, r.xs, r.m.mono h, r.slot, r.apart, r.len, r.tb, r.xt⟩
theorem Rep.step {c : C} {s : S} {σ : L2.St} {H H' : Hp} {k : Nat} (r : Rep c s σ H) (a : Sub (c.hid s.X H) (c.hid s.X H')) (x : ∀ a ∈ s.X, H a ≠ none → H' a = H a) (m : MAt c.M H' k) (tb : TbK c.H0 H') : Rep c (s.at k) σ H' := by
  refine ⟨r.sub.trans a, fun b hb hm hn => ?_, r.x0, r.xm, fun b hb => ?_, m, fun i y e => ?_, r.apart, r.len, tb, fun b hb => by rw [x b hb (r.xs b hb)]; exact r.xt b hb⟩
  · rw [x b (r.x0 b hb) (r.xs b (r.x0 b hb)), r.old b hb hm hn]
  · rw [x b hb (r.xs b hb)]; exact r.xs b hb
  · have q := r.slot i y e
    cases y with
    | no => trivial
    | dat d =>
      obtain ⟨v, e, h⟩ := q
      exact ⟨v, e, h.mono a⟩
    | own p ds =>
      obtain ⟨e, h1, h2, h3, vs, h4, h5⟩ := q
      exact ⟨e, h1, h2, h3, vs, by rw [x p h1 (r.xs p h1)]; exact h4, h5.mono a⟩
    | mst => exact q
    | kds N Z => exact q
    | scr ns =>
      obtain ⟨v, e, h⟩ := q
      exact ⟨v, e, a.sl h⟩
structure AdvE (c : C) (X : List Addr) (H H' : Hp) : Prop where
  sub : Sub (c.hid X H) (c.hid X H')
  own : ∀ a ∈ X, H' a = H a
theorem AdvE.refl {c : C} {X : List Addr} {H : Hp} : AdvE c X H H := ⟨Sub.refl _, fun _ _ => rfl⟩
theorem AdvE.trans {c : C} {X : List Addr} {H H1 H2 : Hp} (a : AdvE c X H H1) (b : AdvE c X H1 H2) : AdvE c X H H2 := ⟨a.sub.trans b.sub, fun x h => (b.own x h).trans (a.own x h)⟩
theorem Rep.new {c : C} {s : S} {σ : L2.St} {H : Hp} {p : Addr} {o : HO} (r : Rep c s σ H) (hp : H p = none) : Rep c s σ (upd H p o) ∧ AdvE c s.X H (upd H p o) := by
  have a : Sub (c.hid s.X H) (c.hid s.X (upd H p o)) := wo_new hp
  have e : ∀ b, H b ≠ none → upd H p o b = H b := fun b h => upd_ne fun z => h (z ▸ hp)
  exact ⟨r.step (k := s.k) a (fun b _ h => e b h) (r.m.eq (fun b hb h => e b h) (.new hp)) (r.tb.trans (.new hp)), a, fun b hb => e b (r.xs b hb)⟩
theorem Rep.free {c : C} {s : S} {σ : L2.St} {H : Hp} {p : Addr} (r : Rep c s σ H) (hp : H p = none) : p ∉ Ml c.M ++ s.X := fun z => by
  rcases List.mem_append.mp z with z | z
  · exact r.m.there p z hp
  · exact r.xs p z hp
theorem Rep.at_new {c : C} {s : S} {σ : L2.St} {H : Hp} {p : Addr} {o : HO} (r : Rep c s σ H) (hp : H p = none) (ht : NoTb o := by intro _ z; cases z) : (c.hid s.X (upd H p o)) p = some o := wo_of (r.free hp) upd_same ht
end DL
namespace DL
open PySem L2
theorem tup_once (l : Addr) (its : Array Value) (n : Nat) (dd : Option Addr) (sl : Array (Option Value)) (u : Tok) :
    Meets (Builtin.«tuple.__mul__» ⟨[.ref l, .int 1 u], []⟩) (fun _ R s => s.heap.get? l = some { cls := .type "tuple", dict := dd, data := .seq its n, slots := sl } ∧ R (.ok (.ret (Value.ref l))) s) := by
  refine .of_wp fun P' w' A' R s' hh => ?_
  obtain ⟨hp, gg, dd', tt, oo⟩ := s'
  obtain ⟨hl, hR⟩ := hh
  have f1 := AutoSeq1.idx_int
  have c1 : (its.isEmpty || (1 : Int) == 1) = true := by rw [show ((1 : Int) == 1) = true from rfl, Bool.or_true]
  wp_walk using AutoSeq1.wpAny_loadPart' hl
  exact ⟨_, rfl, hR⟩
section
variable {X : Cx}
theorem op_rep1 : OpR X (binaryOp .Mult) (fun x y H Q => ∃ l xs, x = .ref l ∧ y = .int 1 ∧ SqT X.K H l xs ∧ Q (.ref l) H) := by
  intro pins s σ H x y v u Q I rx ry h
  obtain ⟨l, xs, rfl, rfl, hT, q⟩ := h
  cases rx
  obtain ⟨t, rfl⟩ := ry
  obtain ⟨its, r, ⟨⟨cls, dd, data, sl⟩, ho, hc, n, hd⟩, hs⟩ := I.tuple hT
  simp only at hc hd
  subst hc hd
  refine wpAny_binaryOp_repeat_ref (T := "tuple") (U := "int") (by decide) ⟨_, ho, rfl⟩ (fun s' => typeIs_int s' 1 t) noFill_tuple_mul F.fills_int_mul F.slot_int_rmul repeat_tuple F.slot_int_index.lookup ?_
  refine PySem.call_meets F.slot_int_rmul (typeIs_int s 1 t) F.entry_int_rmul (F.args_int_rmul_2 _ _) (int_rmul_tuple 1 t l its.toArray n dd sl) ⟨ho, rfl, ⟨_, ho, rfl⟩, ?_⟩
  refine PySem.call_meets F.slot_tuple_mul ⟨_, ho, rfl⟩ F.entry_tuple_mul (F.args_tuple_mul_2 _ _) (tup_once l its.toArray n dd sl t) ⟨ho, ?_⟩
  exact ⟨.ref l, H, I, rfl, q⟩
end
end DL
namespace L2
open PySem
section
variable {X : Cx}
theorem PE.weak {e : Expr} {t t' : TE} (h : PE X e t) (w : ∀ σ H Q, t' σ H Q → t σ H Q) : PE X e t' := ⟨fun p s σ H Q I q => h.run p s σ H Q I (w _ _ _ q)⟩
theorem PT.weak {e : Expr} {t t' : TT} (h : PT X e t) (w : ∀ σ H Q, t' σ H Q → t σ H Q) : PT X e t' := ⟨fun p s σ H Q I q => h.run p s σ H Q I (w _ _ _ q)⟩
theorem PW.weak {e : Expr} {t t' : TT} (h : PW X e t) (w : ∀ σ H Q, t' σ H Q → t σ H Q) : PW X e t' := ⟨fun x p s σ H Q I q => h.run x p s σ H Q I (w _ _ _ q)⟩
theorem PA.weak {e : List Expr} {t t' : TA} (h : PA X e t) (w : ∀ σ H Q, t' σ H Q → t σ H Q) : PA X e t' := ⟨fun x p s σ H Q I q => h.run x p s σ H Q I (w _ _ _ q)⟩
theorem PS.weak {e : Stmt} {t t' : TS} (h : PS X e t) (w : ∀ D σ H, t' D σ H → t D σ H) : PS X e t' := ⟨fun p s σ H D I q => h.run p s σ H D I (w _ _ _ q)⟩
theorem PSs.weak {e : List Stmt} {t t' : TS} (h : PSs X e t) (w : ∀ D σ H, t' D σ H → t D σ H) : PSs X e t' := ⟨fun p s σ H D I q => h.run p s σ H D I (w _ _ _ q)⟩
end
end L2
namespace DL
open PySem L2
open PySem.W (Frag)
abbrev DE := S → (D → Nat → Prop) → Prop
abbrev DT := S → (Bool → Nat → Prop) → Prop
abbrev DA := S → (List D → Nat → Prop) → Prop
def LE (c : C) (t : DE) : TE := fun σ H Q => ∃ s R, Rep c s σ H ∧ t s R ∧ ∀ d k, R d k → ∀ v H', Rep c (s.at k) σ H' → AdvE c s.X H H' → Rl c.K (c.hid s.X H') v d → Q v H'
def LT (c : C) (t : DT) : TT := fun σ H Q => ∃ s R, Rep c s σ H ∧ t s R ∧ ∀ b k, R b k → ∀ H', Rep c (s.at k) σ H' → AdvE c s.X H H' → Q b H'
def LA (c : C) (t : DA) : TA := fun σ H Q => ∃ s R, Rep c s σ H ∧ t s R ∧ ∀ ds k, R ds k → ∀ vs H', Rep c (s.at k) σ H' → AdvE c s.X H H' → RlA c.K (c.hid s.X H') vs ds → Q vs H'
abbrev dVar (i : Nat) : DE := fun s Q => ∃ d, s.sl[i]? = some (.dat d) ∧ Q d s.k
abbrev dC (d : D) : DE := fun s Q => Q d s.k
section
variable {X : Cx} {c : C}
theorem pd_var (i : Nat) {x : PySem.Str} {pos : Pos} (hN : X.N[i]? = some x := by rfl) (hv : Vis X.env.scope x := by first | exact Or.inl rfl | exact Or.inr (Or.inl rfl) | exact Or.inr (Or.inr rfl)) (hd : (x == ("__debug__" : PySem.Str)) = false := by decide)
    (hcd : (x == ("__classdict__" : PySem.Str)) = false := by decide) : PE X (.Name x pos) (LE c (dVar i)) := by
  refine (pe_var hN hv hd hcd).weak fun σ H Q ⟨s, R, r, ⟨d, e, q⟩, f⟩ => ?_
  obtain ⟨v, e1, h⟩ := r.slot i _ e
  exact ⟨v, e1, f _ _ q v H r AdvE.refl h⟩
theorem LE.const {v : V} {d : D} (h : ∀ H, Rl c.K H v d) (σ : L2.St) (H : Hp) (Q : VK) (x : LE c (dC d) σ H Q) : Q v H := by
  obtain ⟨s, R, r, q, f⟩ := x
  exact f _ _ q v H r AdvE.refl (h _)
theorem pd_int {i j pos} : PE X (.Constant (.int i) j pos) (LE c (dC (.int i))) := pe_int.weak fun σ H Q h => LE.const (fun _ => .int i) σ H Q h
theorem pd_bl {b j pos} : PE X (.Constant (.bool b) j pos) (LE c (dC (.bl b))) := pe_bl.weak fun σ H Q h => LE.const (fun _ => .bl b) σ H Q h
theorem pd_non {j pos} : PE X (.Constant .none j pos) (LE c (dC .non)) := pe_non.weak fun σ H Q h => LE.const (fun _ => .non) σ H Q h
theorem pd_str {x j pos} : PE X (.Constant (.str x) j pos) (LE c (dC (.str x))) := pe_str.weak fun σ H Q h => LE.const (fun _ => .str x) σ H Q h
theorem pd_globI {x : PySem.Str} {pos : Pos} {i : Int} {t : Tok} (hm : X.mg x = some (.int i t)) (hg : Gl X x := by rfl) (hd : (x == ("__debug__" : PySem.Str)) = false := by decide) : PE X (.Name x pos) (LE c (dC (.int i))) :=
  (pe_glob (v := .int i) hg hm ⟨t, rfl⟩ hd).weak fun σ H Q h => LE.const (fun _ => .int i) σ H Q h
end
abbrev O2 := D → D → (D → Prop) → Prop
def Wi (c : C) (s : S) (σ : L2.St) (H : Hp) (R : D → Prop) (Q : VK) : Prop := ∀ d, R d → ∀ v H', Rep c s σ H' → AdvE c s.X H H' → Rl c.K (c.hid s.X H') v d → Q v H'
def Fit2 (c : C) (r : R2) (o : O2) : Prop := ∀ (s : S) (σ : L2.St) (H : Hp) (x y : V) (a b : D) (R : D → Prop) (Q : VK), Rep c s σ H → Rl c.K (c.hid s.X H) x a → Rl c.K (c.hid s.X H) y b → o a b R → Wi c s σ H R Q → r x y H Q
abbrev dOp (o : O2) (a b : DE) : DE := fun s Q => a s fun x k => b (s.at k) fun y k' => o x y fun z => Q z k'
theorem LE.op {c : C} {r : R2} {o : O2} {a b : DE} (f : Fit2 c r o) (σ : L2.St) (H : Hp) (Q : VK) (h : LE c (dOp o a b) σ H Q) : tOp r (LE c a) (LE c b) σ H Q := by
  obtain ⟨s, R, rp, h, fin⟩ := h
  refine ⟨s, _, rp, h, fun x k h1 v H1 r1 a1 e1 => ?_⟩
  refine ⟨s.at k, _, r1, h1, fun y k2 h2 u H2 r2 a2 e2 => ?_⟩
  exact f (s.at k2) σ H2 v u x y _ Q r2 (e1.mono a2.sub) e2 h2 fun z hz w H3 r3 a3 e3 => fin z k2 hz w H3 r3 ((a1.trans a2).trans a3) e3
theorem Wi.same {c : C} {s : S} {σ : L2.St} {H : Hp} {R : D → Prop} {Q : VK} (w : Wi c s σ H R Q) (rp : Rep c s σ H) {d : D} {v : V} (h : R d) (e : Rl c.K (c.hid s.X H) v d) : Q v H := w d h v H rp AdvE.refl e
theorem Wi.lst {c : C} {s : S} {σ : L2.St} {H : Hp} {R : D → Prop} {Q : VK} (w : Wi c s σ H R Q) (rp : Rep c s σ H) {ds : List D} {vs : List V} (h : R (.lst ds)) (e : RlA c.K (c.hid s.X H) vs ds) : ∀ p, H p = none → Q (.ref p) (upd H p (.lst vs)) := fun p hp =>
  have n := rp.new (o := .lst vs) hp
  w _ h _ _ n.1 n.2 (.lst (rp.at_new hp) (e.mono n.2.sub))
theorem Wi.tup {c : C} {s : S} {σ : L2.St} {H : Hp} {R : D → Prop} {Q : VK} (w : Wi c s σ H R Q) (rp : Rep c s σ H) {ds : List D} {vs : List V} (h : R (.tup ds)) (e : RlA c.K (c.hid s.X H) vs ds) : ∀ p, H p = none → Q (.ref p) (upd H p (.tup vs)) := fun p hp =>
  have n := rp.new (o := .tup vs) hp
  w _ h _ _ n.1 n.2 (.tup (SqT.of (rp.at_new hp)) (e.mono n.2.sub))
theorem Rl.all {c : C} {s : S} {H : Hp} {v : V} {d : D} (h : Rl c.K (c.hid s.X H) v d) : Rl c.K H v d := h.mono (wo_sub _ _)
def lim : Nat := 1000000
theorem lim_le {n : Nat} (h : n ≤ lim) : n ≤ sizeLine := Nat.le_trans h (by decide)
theorem lim_lt {n : Nat} (h : n ≤ lim) : n < sizeLine := Nat.lt_of_le_of_lt h (by decide)
abbrev oAdd : O2 := fun x y Q => match x, y with
  | .int i, .int j => Q (.int (i + j))
  | .lst a, .lst b => a.length + b.length ≤ lim ∧ Q (.lst (a ++ b))
  | .tup a, .tup b => a.length + b.length ≤ lim ∧ Q (.tup (a ++ b))
  | _, _ => False
abbrev oSub : O2 := fun x y Q => match x, y with
  | .int i, .int j => Q (.int (i - j))
  | _, _ => False
abbrev oMul : O2 := fun x y Q => match x, y with
  | .int i, .int j => CMul i j ∧ Q (.int (i * j))
  | .lst a, .int k => 0 ≤ k ∧ k ≤ 1000 ∧ a.length * k.toNat ≤ lim ∧ Q (.lst (List.replicate k.toNat a).flatten)
  | .tup a, .int k => a ≠ [] ∧ 1 ≤ k ∧ k ≤ 1000 ∧ a.length ≤ 1000 ∧ Q (.tup (List.replicate k.toNat a).flatten)
  | _, _ => False
abbrev oDiv : O2 := fun x y Q => match x, y with
  | .int i, .int j => CDivW i j ∧ Q (.int (i / j))
  | _, _ => False
abbrev oMod : O2 := fun x y Q => match x, y with
  | .int i, .int j => 0 < j ∧ Q (.int (i % j))
  | _, _ => False
abbrev oPow : O2 := fun x y Q => match x, y with
  | .int i, .int j => CPow i j ∧ Q (.int (i ^ j.toNat))
  | _, _ => False
abbrev oLt : O2 := fun x y Q => match x, y with | .int i, .int j => Q (.bl (decide (i < j))) | _, _ => False
abbrev oLe : O2 := fun x y Q => match x, y with | .int i, .int j => Q (.bl (decide (i ≤ j))) | _, _ => False
abbrev oGt : O2 := fun x y Q => match x, y with | .int i, .int j => Q (.bl (decide (j < i))) | _, _ => False
abbrev oGe : O2 := fun x y Q => match x, y with | .int i, .int j => Q (.bl (decide (j ≤ i))) | _, _ => False
abbrev oIs : O2 := fun x y Q => match x, y with
  | .non, .non => Q (.bl true)
  | .bl a, .bl b => Q (.bl (decide (a = b)))
  | _, .non => Q (.bl false)
  | _, _ => False
abbrev oNot (o : O2) : O2 := fun x y Q => o x y fun z => match z with | .bl b => Q (.bl (!b)) | _ => False
theorem Rl.lstE {K : Frag} {H : Hp} {v : V} {ds : List D} (h : Rl K H v (.lst ds)) : ∃ a vs, v = .ref a ∧ H a = some (.lst vs) ∧ RlA K H vs ds := by
  cases h with
  | lst h r => exact ⟨_, _, rfl, h, r⟩
theorem Rl.tupE {K : Frag} {H : Hp} {v : V} {ds : List D} (h : Rl K H v (.tup ds)) : ∃ a vs, v = .ref a ∧ SqT K H a vs ∧ RlA K H vs ds := by
  cases h with
  | tup h r => exact ⟨_, _, rfl, h, r⟩
theorem Rl.intE {K : Frag} {H : Hp} {v : V} {i : Int} (h : Rl K H v (.int i)) : v = .int i := by
  cases h; rfl
theorem Rl.blE {K : Frag} {H : Hp} {v : V} {i : Bool} (h : Rl K H v (.bl i)) : v = .bl i := by
  cases h; rfl
theorem Rl.nonE {K : Frag} {H : Hp} {v : V} (h : Rl K H v .non) : v = .non := by
  cases h; rfl
theorem RlA.repl {K : Frag} {A : Hp} {vs : List V} {ds : List D} (h : RlA K A vs ds) : ∀ n : Nat, RlA K A (List.replicate n vs).flatten (List.replicate n ds).flatten
  | 0 => .nil
  | n + 1 => by
    rw [List.replicate_succ, List.flatten_cons, List.replicate_succ, List.flatten_cons]
    exact h.app (RlA.repl h n)
section
variable {X : Cx} {c : C} (hK : c.K = X.K)
theorem fit_I {cond : Int → Int → Prop} {g : Int → Int → V} {o : O2} {go : Int → Int → D} (hg : ∀ i j H, Rl c.K H (g i j) (go i j))
    (h : ∀ x y R, o x y R → ∃ i j, x = .int i ∧ y = .int j ∧ cond i j ∧ R (go i j)) : Fit2 c (rI cond g) o := fun s σ H x y a b R Q rp hx hy ho w => by
  obtain ⟨i, j, rfl, rfl, hc, hr⟩ := h _ _ _ ho
  cases hx.intE
  cases hy.intE
  exact ⟨i, j, rfl, rfl, hc, w.same rp hr (hg i j _)⟩
theorem fit_I0 {g : Int → Int → V} {o : O2} {go : Int → Int → D} (hg : ∀ i j H, Rl c.K H (g i j) (go i j))
    (h : ∀ x y R, o x y R → ∃ i j, x = .int i ∧ y = .int j ∧ R (go i j)) : Fit2 c (rI0 g) o := fun s σ H x y a b R Q rp hx hy ho w => by
  obtain ⟨i, j, rfl, rfl, hr⟩ := h _ _ _ ho
  cases hx.intE
  cases hy.intE
  exact ⟨i, j, rfl, rfl, w.same rp hr (hg i j _)⟩
theorem fit_sub : Fit2 c (rI0 fun i j => .int (i - j)) oSub := fit_I0 (go := fun i j => .int (i - j)) (fun _ _ _ => .int _) (by (intro x y R h; cases x <;> first | exact h.elim | (cases y <;> first | exact h.elim | exact ⟨_, _, rfl, rfl, h⟩)))
theorem fit_div : Fit2 c (rI CDivW fun i j => .int (i / j)) oDiv := fit_I (go := fun i j => .int (i / j)) (fun _ _ _ => .int _) (by (intro x y R h; cases x <;> first | exact h.elim | (cases y <;> first | exact h.elim | exact ⟨_, _, rfl, rfl, h⟩)))
theorem fit_mod : Fit2 c (rI (fun _ j => 0 < j) fun i j => .int (i % j)) oMod := fit_I (go := fun i j => .int (i % j)) (fun _ _ _ => .int _) (by (intro x y R h; cases x <;> first | exact h.elim | (cases y <;> first | exact h.elim | exact ⟨_, _, rfl, rfl, h⟩)))
theorem fit_pow : Fit2 c (rI CPow fun i j => .int (i ^ j.toNat)) oPow := fit_I (go := fun i j => .int (i ^ j.toNat)) (fun _ _ _ => .int _) (by (intro x y R h; cases x <;> first | exact h.elim | (cases y <;> first | exact h.elim | exact ⟨_, _, rfl, rfl, h⟩)))
theorem fit_lt : Fit2 c (rI0 fun i j => .bl (decide (i < j))) oLt := fit_I0 (go := fun i j => .bl (decide (i < j))) (fun _ _ _ => .bl _) (by (intro x y R h; cases x <;> first | exact h.elim | (cases y <;> first | exact h.elim | exact ⟨_, _, rfl, rfl, h⟩)))
theorem fit_le : Fit2 c (rI0 fun i j => .bl (decide (i ≤ j))) oLe := fit_I0 (go := fun i j => .bl (decide (i ≤ j))) (fun _ _ _ => .bl _) (by (intro x y R h; cases x <;> first | exact h.elim | (cases y <;> first | exact h.elim | exact ⟨_, _, rfl, rfl, h⟩)))
theorem fit_gt : Fit2 c (rI0 fun i j => .bl (decide (j < i))) oGt := fit_I0 (go := fun i j => .bl (decide (j < i))) (fun _ _ _ => .bl _) (by (intro x y R h; cases x <;> first | exact h.elim | (cases y <;> first | exact h.elim | exact ⟨_, _, rfl, rfl, h⟩)))
theorem fit_ge : Fit2 c (rI0 fun i j => .bl (decide (j ≤ i))) oGe := fit_I0 (go := fun i j => .bl (decide (j ≤ i))) (fun _ _ _ => .bl _) (by (intro x y R h; cases x <;> first | exact h.elim | (cases y <;> first | exact h.elim | exact ⟨_, _, rfl, rfl, h⟩)))
include hK in
theorem fit_add : Fit2 c (fun x y H Q => rI0 (fun i j => .int (i + j)) x y H Q ∨ (fun x y H Q => rCat x y H Q ∨ rCatA X.K x y H Q) x y H Q) oAdd := fun s σ H x y a b R Q rp hx hy ho w => by
  cases a <;> first
    | exact ho.elim
    | (cases b <;> first
        | exact ho.elim
        | (cases hx.intE; cases hy.intE; exact .inl ⟨_, _, rfl, rfl, w.same rp ho (.int _)⟩)
        | (obtain ⟨p, vs, rfl, h1, r1⟩ := Rl.lstE hx
           obtain ⟨q, us, rfl, h2, r2⟩ := Rl.lstE hy
           refine .inr (.inl ⟨p, q, vs, us, rfl, rfl, wo_sub _ _ _ _ h1, wo_sub _ _ _ _ h2, ?_, w.lst rp ho.2 (r1.app r2)⟩)
           rw [r1.len, r2.len]
           exact lim_le ho.1)
        | (obtain ⟨p, vs, rfl, h1, r1⟩ := Rl.tupE hx
           obtain ⟨q, us, rfl, h2, r2⟩ := Rl.tupE hy
           refine .inr (.inr ⟨p, q, vs, us, rfl, rfl, hK ▸ (wo_sub _ _).st h1, hK ▸ (wo_sub _ _).st h2, ?_, fun e => ?_, fun _ e => ?_, fun _ _ => w.tup rp ho.2 (r1.app r2)⟩)
           · rw [r1.len, r2.len]
             exact lim_le ho.1
           · subst e
             cases r1
             exact w.same rp ho.2 hy
           · subst e
             cases r2
             refine w.same rp ho.2 ?_
             rw [List.append_nil]
             exact hx))
include hK in
theorem fit_mul : Fit2 c (fun x y H Q => rI CMul (fun i j => .int (i * j)) x y H Q ∨ (fun x y H Q => rRep x y H Q ∨ (fun x y H Q => rRepT X.K x y H Q ∨ (fun x y H Q => ∃ l xs, x = .ref l ∧ y = .int 1 ∧ SqT X.K H l xs ∧ Q (.ref l) H) x y H Q) x y H Q) x y H Q) oMul := fun s σ H x y a b R Q rp hx hy ho w => by
  cases a <;> first
    | exact ho.elim
    | (cases b <;> first
        | exact ho.elim
        | (cases hx.intE; cases hy.intE; exact .inl ⟨_, _, rfl, rfl, ho.1, w.same rp ho.2 (.int _)⟩)
        | (obtain ⟨p, vs, rfl, h1, r1⟩ := Rl.lstE hx
           cases hy.intE
           obtain ⟨h0, h9, hl, hR⟩ := ho
           refine .inr (.inl ⟨p, _, vs, rfl, rfl, wo_sub _ _ _ _ h1, by omega, by omega, ?_, w.lst rp hR (r1.repl _)⟩)
           rw [r1.len]
           exact lim_le hl)
        | (obtain ⟨p, vs, rfl, h1, r1⟩ := Rl.tupE hx
           cases hy.intE
           obtain ⟨hne, h0, h9, hl, hR⟩ := ho
           rename_i k
           by_cases k1 : k = 1
           · subst k1
             refine .inr (.inr (.inr ⟨p, vs, rfl, rfl, hK ▸ (wo_sub _ _).st h1, w.same rp hR ?_⟩))
             have e : (List.replicate (1 : Int).toNat ‹List D›).flatten = ‹List D› := by
               show (List.replicate 1 _).flatten = _
               simp
             rw [e]
             exact hx
           · refine .inr (.inr (.inl ⟨p, _, vs, rfl, rfl, hK ▸ (wo_sub _ _).st h1, fun e => ?_, by omega, h9, by rw [r1.len]; exact hl, w.tup rp hR (r1.repl _)⟩))
             subst e
             cases r1
             exact hne rfl))
theorem fit_isnot : Fit2 c (fun x y H Q => (fun x y H Q => y = .non ∧ Q (.bl (!decide (x = .non))) H) x y H Q ∨ rNotB x y H Q) (oNot oIs) := fun s σ H x y a b R Q rp hx hy ho w => by
  cases b with
  | non =>
    cases hy.nonE
    refine .inl ⟨rfl, ?_⟩
    cases hx <;> exact w.same rp ho (.bl _)
  | bl j =>
    cases a <;> first | exact ho.elim | skip
    cases hx.blE; cases hy.blE
    exact .inr ⟨_, _, rfl, rfl, w.same rp ho (.bl _)⟩
  | _ => cases a <;> exact ho.elim
end
end DL
namespace DL
open PySem L2
open PySem.W (Frag)
mutual
def D.py : D → PyData
  | .non => .none
  | .bl b => .bool b
  | .int i => .int i
  | .str x => .str x
  | .lst xs => .list (pyA xs)
  | .tup xs => .tuple (pyA xs)
  | .dic => .dict []
  | .ins _ _ _ => .none
  | .exc _ _ _ => .none
  | .dct _ _ => .none
def pyA : List D → List PyData
  | [] => []
  | d :: r => D.py d :: pyA r
end
mutual
def D.plain : D → Bool
  | .lst xs => plainA xs
  | .tup xs => plainA xs
  | .dic => false
  | .ins _ _ _ => false
  | .exc _ _ _ => false
  | .dct _ _ => false
  | .non => true
  | .bl _ => true
  | .int _ => true
  | .str _ => true
def plainA : List D → Bool
  | [] => true
  | d :: r => D.plain d && plainA r
end
mutual
theorem Rl.dp {K : Frag} {H : Hp} : ∀ (d : D) {v : V}, Rl K H v d → d.plain = true → Dp K H v d.py
  | .non, _, h, _ => by cases h; exact .non
  | .bl b, _, h, _ => by cases h; exact .bl b
  | .int i, _, h, _ => by cases h; exact .int i
  | .str x, _, h, _ => by cases h; exact .str x
  | .lst xs, _, h, p => by
    cases h with
    | lst h r => exact .lst (SqL.of h) (RlA.dp xs r p)
  | .tup xs, _, h, p => by
    cases h with
    | tup h r => exact .tup h (RlA.dp xs r p)
  | .dic, _, _, p => by cases p
  | .ins _ _ _, _, _, p => by cases p
  | .exc _ _ _, _, _, p => by cases p
  | .dct _ _, _, _, p => by cases p
theorem RlA.dp {K : Frag} {H : Hp} : ∀ (ds : List D) {vs : List V}, RlA K H vs ds → plainA ds = true → DpAll K H vs (pyA ds)
  | [], _, h, _ => by cases h; exact .nil
  | d :: r, _, h, p => by
    have p' := Bool.and_eq_true_iff.mp p
    cases h with
    | cons h q => exact .cons (Rl.dp d h p'.1) (RlA.dp r q p'.2)
end
def D.okE (d : D) : Bool := d.plain && SeqAt.shaped d.py
abbrev oEq : O2 := fun x y Q => match x, y with
  | .str a, .str b => Q (.bl (decide (a = b)))
  | x, y => x.okE = true ∧ y.okE = true ∧ Q (.bl (PyData.eqv x.py y.py))
abbrev oNe : O2 := fun x y Q => match x, y with
  | .str a, .str b => Q (.bl (!decide (a = b)))
  | x, y => x.okE = true ∧ y.okE = true ∧ Q (.bl (!PyData.eqv x.py y.py))
theorem Rl.strE {K : Frag} {H : Hp} {v : V} {x : PySem.Str} (h : Rl K H v (.str x)) : v = .str x := by
  cases h; rfl
theorem str_dec (a b : PySem.Str) : decide (V.str a = V.str b) = decide (a = b) := by
  by_cases e : a = b
  · subst e; simp
  · have : ¬ V.str a = V.str b := fun q => e (V.str.inj q)
    rw [decide_eq_false this, decide_eq_false e]
theorem plain_ints : ∀ ns : List Int, plainA (ns.map D.int) = true
  | [] => rfl
  | _ :: r => plain_ints r
theorem py_ints : ∀ ns : List Int, pyA (ns.map D.int) = ns.map PyData.int
  | [] => rfl
  | n :: r => congrArg (PyData.int n :: ·) (py_ints r)
theorem lay_ints : ∀ ns : List Int, PyData.canLayAll0 (ns.map PyData.int) = true
  | [] => rfl
  | n :: r => by
    show (PyData.canLay0 (.int n) && PyData.canLayAll0 (r.map PyData.int)) = true
    rw [lay_ints r]
    rfl
theorem depth_ints : ∀ ns : List Int, PyData.depthAll (ns.map PyData.int) = 0
  | [] => rfl
  | n :: r => by
    show max (PyData.depth (.int n)) (PyData.depthAll (r.map PyData.int)) = 0
    rw [depth_ints r]
    rfl
theorem eqv_ints : ∀ ns ms : List Int, PyData.eqvAll (ns.map PyData.int) (ms.map PyData.int) = decide (ns = ms)
  | [], [] => rfl
  | [], _ :: _ => rfl
  | _ :: _, [] => rfl
  | n :: r, m :: q => by
    show (PyData.eqv (.int n) (.int m) && PyData.eqvAll (r.map PyData.int) (q.map PyData.int)) = _
    rw [eqv_ints r q]
    show ((n == m) && decide (r = q)) = decide (n :: r = m :: q)
    by_cases h1 : n = m
    · subst h1
      by_cases h2 : r = q
      · simp [h2]
      · simp [h2]
    · have e : (n == m) = false := by simpa using h1
      rw [e]
      simp [h1]
theorem okE_tupI (ns : List Int) : (D.tup (ns.map D.int)).okE = true := by
  show (plainA (ns.map D.int) && (PyData.canLayAll0 (pyA (ns.map D.int)) && decide (PyData.depthAll (pyA (ns.map D.int)) + 1 ≤ 64))) = true
  rw [plain_ints, py_ints, lay_ints, depth_ints]
  rfl
theorem okE_lstI (ns : List Int) : (D.lst (ns.map D.int)).okE = true := okE_tupI ns
theorem eqv_tupI (ns ms : List Int) : PyData.eqv (D.tup (ns.map D.int)).py (D.tup (ms.map D.int)).py = decide (ns = ms) := by
  show PyData.eqvAll (pyA _) (pyA _) = _
  rw [py_ints, py_ints, eqv_ints]
theorem eqv_lstI (ns ms : List Int) : PyData.eqv (D.lst (ns.map D.int)).py (D.lst (ms.map D.int)).py = decide (ns = ms) := eqv_tupI ns ms
def D.flat : D → Bool
  | .non => true
  | .bl _ => true
  | .int _ => true
  | .str _ => true
  | _ => false
def D.v : D → V
  | .non => .non
  | .bl b => .bl b
  | .int i => .int i
  | .str x => .str x
  | _ => .non
theorem Rl.flat {K : Frag} {H : Hp} {v : V} {d : D} (h : Rl K H v d) (f : d.flat = true) : v = d.v ∧ flatV v = true := by
  cases h <;> first | exact ⟨rfl, rfl⟩ | cases f
theorem RlA.flat {K : Frag} {H : Hp} : ∀ {vs : List V} {ds : List D}, RlA K H vs ds → ds.all D.flat = true → vs = ds.map D.v ∧ vs.all flatV = true
  | _, _, .nil, _ => ⟨rfl, rfl⟩
  | _, _, .cons h r, f => by
    rw [List.all_cons] at f
    have f' := Bool.and_eq_true_iff.mp f
    obtain ⟨e1, a1⟩ := h.flat f'.1
    obtain ⟨e2, a2⟩ := RlA.flat r f'.2
    exact ⟨by rw [List.map_cons, ← e1, ← e2], by rw [List.all_cons, a1, a2]; rfl⟩
def D.items : D → Option (List D)
  | .lst xs => some xs
  | .tup xs => some xs
  | _ => none
abbrev oIn : O2 := fun x y Q => x.flat = true ∧ ∃ ds, y.items = some ds ∧ ds.all D.flat = true ∧ Q (.bl (inV x.v (ds.map D.v)))
theorem Rl.items {K : Frag} {H : Hp} {v : V} {d : D} {ds : List D} (h : Rl K H v d) (e : d.items = some ds) : ∃ a vs, v = .ref a ∧ (SqL K H a vs ∨ SqT K H a vs) ∧ RlA K H vs ds := by
  cases d <;> first | cases e | skip
  · obtain ⟨a, vs, e, h, r⟩ := h.lstE
    exact ⟨a, vs, e, .inl (SqL.of h), r⟩
  · obtain ⟨a, vs, e, h, r⟩ := h.tupE
    exact ⟨a, vs, e, .inr h, r⟩
theorem sq_all {K : Frag} {A B : Hp} (x : Sub A B) {a : Addr} {vs : List V} (h : SqL K A a vs ∨ SqT K A a vs) : SqL K B a vs ∨ SqT K B a vs := h.elim (fun h => .inl (x.sl h)) fun h => .inr (x.st h)
section
variable {X : Cx} {c : C} (hK : c.K = X.K)
include hK
theorem fit_eq : Fit2 c (fun x y H Q => rEq x y H Q ∨ rEqD X.K x y H Q) oEq := fun s σ H x y a b R Q rp hx hy ho w => by
  unfold oEq at ho
  split at ho
  · cases hx.strE
    cases hy.strE
    exact .inl ⟨rfl, by rw [str_dec]; exact w.same rp ho (.bl _)⟩
  · obtain ⟨h1, h2, ho⟩ := ho
    have p1 := Bool.and_eq_true_iff.mp h1
    have p2 := Bool.and_eq_true_iff.mp h2
    exact .inr ⟨_, _, hK ▸ Rl.dp _ hx.all p1.1, hK ▸ Rl.dp _ hy.all p2.1, p1.2, p2.2, w.same rp ho (.bl _)⟩
theorem fit_ne : Fit2 c (fun x y H Q => rNe x y H Q ∨ rNeD X.K x y H Q) oNe := fun s σ H x y a b R Q rp hx hy ho w => by
  unfold oNe at ho
  split at ho
  · cases hx.strE
    cases hy.strE
    exact .inl ⟨rfl, by rw [str_dec]; exact w.same rp ho (.bl _)⟩
  · obtain ⟨h1, h2, ho⟩ := ho
    have p1 := Bool.and_eq_true_iff.mp h1
    have p2 := Bool.and_eq_true_iff.mp h2
    exact .inr ⟨_, _, hK ▸ Rl.dp _ hx.all p1.1, hK ▸ Rl.dp _ hy.all p2.1, p1.2, p2.2, w.same rp ho (.bl _)⟩
theorem fit_in : Fit2 c (rIn X.K false) oIn := fun s σ H x y a b R Q rp hx hy ⟨h1, ds, h2, h3, ho⟩ w => by
  obtain ⟨e1, f1⟩ := hx.flat h1
  obtain ⟨p, vs, rfl, hs, r⟩ := hy.items h2
  obtain ⟨e2, f2⟩ := r.flat h3
  refine ⟨p, vs, rfl, hK ▸ sq_all (wo_sub _ _) hs, f1, f2, ?_⟩
  rw [e1, e2]
  exact w.same rp ho (.bl _)
abbrev oIx : O2 := fun x y Q => match y with
  | .int i => ∃ ds d, x.items = some ds ∧ atI ds i = some d ∧ Q d
  | _ => False
omit hK in
theorem at_rl {K : Frag} {A : Hp} {vs : List V} {ds : List D} {i : Int} {d : D} (r : RlA K A vs ds) (h : atI ds i = some d) : ∃ v, atI vs i = some v ∧ Rl K A v d := by
  unfold atI at h ⊢
  rw [r.len]
  cases e : ixN ds.length i with
  | none => rw [e] at h; cases h
  | some j =>
    rw [e] at h
    exact r.getD (i := j) h
theorem fit_ix : Fit2 c (rIx X.K) oIx := fun s σ H x y a b R Q rp hx hy ho w => by
  cases b <;> first | exact ho.elim | skip
  rename_i i
  cases hy.intE
  obtain ⟨ds, d, h1, h2, hR⟩ := ho
  obtain ⟨p, vs, rfl, hs, r⟩ := hx.items h1
  obtain ⟨v, h3, h4⟩ := at_rl r h2
  rcases sq_all (wo_sub _ _) hs with hs | hs
  · exact .inl ⟨p, vs, i, v, rfl, rfl, hK ▸ hs, h3, w.same rp hR h4⟩
  · exact .inr (.inl ⟨p, vs, i, v, rfl, rfl, hK ▸ hs, h3, w.same rp hR h4⟩)
end
def D.tru : D → Option Bool
  | .non => some false
  | .bl b => some b
  | .int i => some (i != 0)
  | .lst xs => some (!xs.isEmpty)
  | .tup xs => some (!xs.isEmpty)
  | .dic => some false
  | _ => none
abbrev dTru (t : DE) : DT := fun s Q => t s fun d k => ∃ b, d.tru = some b ∧ Q b k
abbrev dTB (t : DE) : DT := fun s Q => t s fun d k => ∃ b, d = .bl b ∧ Q b k
abbrev dAnd (t u : DT) : DT := fun s Q => t s fun b k => if b = true then u (s.at k) Q else Q false k
abbrev dOr (t u : DT) : DT := fun s Q => t s fun b k => if b = true then Q true k else u (s.at k) Q
abbrev dNot (t : DT) : DT := fun s Q => t s fun b k => Q (!b) k
abbrev dIf (t : DT) (a b : DE) : DE := fun s Q => t s fun x k => if x = true then a (s.at k) Q else b (s.at k) Q
abbrev dAndV (t u : DE) : DE := fun s Q => t s fun d k => ∃ b, d = .bl b ∧ if b = true then u (s.at k) Q else Q (.bl false) k
abbrev dNotV (t : DE) : DE := fun s Q => t s fun d k => ∃ b, d = .bl b ∧ Q (.bl (!b)) k
theorem isEmpty_rl {K : Frag} {A : Hp} {vs : List V} {ds : List D} (r : RlA K A vs ds) : vs.isEmpty = ds.isEmpty := by
  cases r <;> rfl
section
variable {X : Cx} {c : C}
theorem pt_tru (hK : c.K = X.K) {a : Expr} {t : DE} (h : PE X a (LE c t)) (he : ∀ whole, isTrue a X.env whole = (do let v ← whole; standAt a.pos; holding [v] (truthy v)) := by intro _; rfl) : PT X a (LT c (dTru t)) :=
  (pt_truth h he).weak fun σ H Q ⟨s, R, rp, q, f⟩ => by
    refine ⟨s, _, rp, q, fun d k ⟨b, hb, hR⟩ v H' r1 a1 e1 => ⟨b, ?_, f b k hR H' r1 a1⟩⟩
    cases d <;> first | cases hb | skip
    · cases e1.nonE; rfl
    · cases e1.blE; rfl
    · cases e1.intE; rfl
    · obtain ⟨p, vs, rfl, h1, r⟩ := e1.lstE
      exact .inl ⟨vs, hK ▸ SqL.of (wo_sub _ _ _ _ h1), by rw [isEmpty_rl r]⟩
    · obtain ⟨p, vs, rfl, h1, r⟩ := e1.tupE
      exact .inr (.inl ⟨vs, hK ▸ (wo_sub _ _).st h1, by rw [isEmpty_rl r]⟩)
    · cases e1 with
      | dic h => exact .inr (.inr ⟨_, wo_sub _ _ _ _ h, rfl⟩)
theorem LT.ofB {t : DE} {σ : L2.St} {H : Hp} {Q : Bool → Hp → Prop} (h : LT c (dTB t) σ H Q) : LE c t σ H fun x H1 => ∃ b, x = .bl b ∧ Q b H1 := by
  obtain ⟨s, R, rp, q, f⟩ := h
  refine ⟨s, _, rp, q, fun d k ⟨b, hb, hR⟩ v H' r1 a1 e1 => ?_⟩
  subst hb
  cases e1.blE
  exact ⟨b, rfl, f b k hR H' r1 a1⟩
theorem pd_cmp {a b : Expr} {op : CmpOp} {pos : Pos} {ta tb : DE} {r : R2} {o : O2} (ho : OpR X (compareOp op) r) (f : Fit2 c r o) (ha : PE X a (LE c ta)) (hb : PE X b (LE c tb)) (hm : behindInMarks op b = false := by first | exact nomark _ | rfl) :
    PE X (.Compare a [op] [b] pos) (LE c (dOp o ta tb)) := (pe_cmpR ho ha hb hm).weak fun σ H Q h => LE.op f σ H Q h
theorem ptd_cmp {a b : Expr} {op : CmpOp} {pos : Pos} {ta tb : DE} {r : R2} {o : O2} (ho : OpR X (compareOp op) r) (f : Fit2 c r o) (ha : PE X a (LE c ta)) (hb : PE X b (LE c tb)) (hm : behindInMarks op b = false := by first | exact nomark _ | rfl) :
    PT X (.Compare a [op] [b] pos) (LT c (dTB (dOp o ta tb))) := (pt_cmpR ho ha hb hm).weak fun σ H Q h => LE.op f σ H _ h.ofB
abbrev dCh (o o' : O2) (a b e : DE) : DE := fun s Q => a s fun x k => b (s.at k) fun y k1 => o x y fun z => ∃ q, z = .bl q ∧ if q = true then e (s.at k1) fun w k2 => o' y w fun u => Q u k2 else Q (.bl false) k1
theorem LE.chain {r r' : R2} {o o' : O2} {a b e : DE} (f : Fit2 c r o) (f' : Fit2 c r' o') (σ : L2.St) (H : Hp) (Q : VK) (h : LE c (dCh o o' a b e) σ H Q) : tChain r r' (LE c a) (LE c b) (LE c e) σ H Q := by
  obtain ⟨s, R, rp, h, fin⟩ := h
  refine ⟨s, _, rp, h, fun x k h1 v H1 r1 a1 e1 => ?_⟩
  refine ⟨s.at k, _, r1, h1, fun y k2 h2 u H2 r2 a2 e2 => ?_⟩
  refine f (s.at k2) σ H2 v u x y _ _ r2 (e1.mono a2.sub) e2 h2 fun z ⟨q, hq, hz⟩ w H3 r3 a3 e3 => ?_
  subst hq
  cases e3.blE
  refine ⟨q, rfl, ?_⟩
  cases q with
  | false => exact fin _ k2 hz _ H3 r3 ((a1.trans a2).trans a3) (.bl false)
  | true =>
    refine ⟨s.at k2, _, r3, hz, fun d k4 h4 w4 H4 r4 a4 e4 => ?_⟩
    exact f' (s.at k4) σ H4 u w4 y d _ Q r4 ((e2.mono a3.sub).mono a4.sub) e4 h4 fun z hz w H5 r5 a5 e5 => fin z k4 hz w H5 r5 ((((a1.trans a2).trans a3).trans a4).trans a5) e5
theorem ptd_chain {a b e : Expr} {op op' : CmpOp} {pos : Pos} {ta tb te : DE} {r r' : R2} {o o' : O2} (ho : OpR X (compareOp op) r) (f : Fit2 c r o) (ho' : OpR X (compareOp op') r') (f' : Fit2 c r' o') (ha : PE X a (LE c ta)) (hb : PE X b (LE c tb)) (he : PE X e (LE c te)) (hm : lastMarks [op, op'] [b, e] = false := by rfl) :
    PT X (.Compare a [op, op'] [b, e] pos) (LT c (dTB (dCh o o' ta tb te))) := (pt_chain ho ho' ha hb he hm).weak fun σ H Q h => LE.chain f f' σ H _ h.ofB
theorem pwd_and1 {a : Expr} {pos : Pos} {t : DT} (ha : PT X a (LT c t)) : PW X (.BoolOp .And [a] pos) (LT c t) := pw_and1 ha
theorem pwd_or1 {a : Expr} {pos : Pos} {t : DT} (ha : PT X a (LT c t)) : PW X (.BoolOp .Or [a] pos) (LT c t) := pw_or1 ha
theorem pwd_and {a b : Expr} {rest : List Expr} {pos : Pos} {t u : DT} (ha : PT X a (LT c t)) (hb : PW X (.BoolOp .And (b :: rest) pos) (LT c u)) : PW X (.BoolOp .And (a :: b :: rest) pos) (LT c (dAnd t u)) :=
  (pw_and ha hb).weak fun σ H Q ⟨s, R, rp, q, f⟩ => by
    refine ⟨s, _, rp, q, fun b k hb H1 r1 a1 => ?_⟩
    cases b with
    | true => exact ⟨s.at k, R, r1, hb, fun b' k' hR H2 r2 a2 => f b' k' hR H2 r2 (a1.trans a2)⟩
    | false => exact f false k hb H1 r1 a1
theorem pwd_or {a b : Expr} {rest : List Expr} {pos : Pos} {t u : DT} (ha : PT X a (LT c t)) (hb : PW X (.BoolOp .Or (b :: rest) pos) (LT c u)) : PW X (.BoolOp .Or (a :: b :: rest) pos) (LT c (dOr t u)) :=
  (pw_or ha hb).weak fun σ H Q ⟨s, R, rp, q, f⟩ => by
    refine ⟨s, _, rp, q, fun b k hb H1 r1 a1 => ?_⟩
    cases b with
    | false => exact ⟨s.at k, R, r1, hb, fun b' k' hR H2 r2 a2 => f b' k' hR H2 r2 (a1.trans a2)⟩
    | true => exact f true k hb H1 r1 a1
theorem ptd_not {a : Expr} {pos : Pos} {t : DT} (ha : PT X a (LT c t)) : PT X (.UnaryOp .Not a pos) (LT c (dNot t)) :=
  (pt_not ha).weak fun σ H Q ⟨s, R, rp, q, f⟩ => ⟨s, _, rp, q, fun b k hb H1 r1 a1 => f _ k hb H1 r1 a1⟩
theorem pd_if {t a b : Expr} {pos : Pos} {tt : DT} {ta tb : DE} (ht : PT X t (LT c tt)) (ha : PE X a (LE c ta)) (hb : PE X b (LE c tb)) : PE X (.IfExp t a b pos) (LE c (dIf tt ta tb)) :=
  (pe_ifExp ht ha hb).weak fun σ H Q ⟨s, R, rp, q, f⟩ => by
    refine ⟨s, _, rp, q, fun b k hb H1 r1 a1 => ?_⟩
    cases b with
    | true => exact ⟨s.at k, R, r1, hb, fun d k' hR v H2 r2 a2 e => f d k' hR v H2 r2 (a1.trans a2) e⟩
    | false => exact ⟨s.at k, R, r1, hb, fun d k' hR v H2 r2 a2 e => f d k' hR v H2 r2 (a1.trans a2) e⟩
theorem pd_one {a : Expr} {op} {pos : Pos} {t : DE} (h : PE X a (LE c t)) : PE X (.BoolOp op [a] pos) (LE c t) := pe_one h
theorem pd_andV {a b : Expr} {rest : List Expr} {pos : Pos} {t u : DE} (ha : PE X a (LE c t)) (hb : PE X (.BoolOp .And (b :: rest) pos) (LE c u)) : PE X (.BoolOp .And (a :: b :: rest) pos) (LE c (dAndV t u)) :=
  (pe_and ha hb).weak fun σ H Q ⟨s, R, rp, q, f⟩ => by
    refine ⟨s, _, rp, q, fun d k ⟨b, hd, hb⟩ v H1 r1 a1 e1 => ?_⟩
    subst hd
    cases e1.blE
    refine ⟨b, rfl, ?_⟩
    cases b with
    | true => exact ⟨s.at k, R, r1, hb, fun d k' hR v H2 r2 a2 e => f d k' hR v H2 r2 (a1.trans a2) e⟩
    | false => exact f _ k hb _ H1 r1 a1 (.bl _)
theorem pd_notV {a : Expr} {pos : Pos} {t : DE} (ha : PE X a (LE c t)) : PE X (.UnaryOp .Not a pos) (LE c (dNotV t)) :=
  (pe_not ha).weak fun σ H Q ⟨s, R, rp, q, f⟩ => by
    refine ⟨s, _, rp, q, fun d k ⟨b, hd, hb⟩ v H1 r1 a1 e1 => ?_⟩
    subst hd
    cases e1.blE
    exact ⟨b, rfl, f _ k hb _ H1 r1 a1 (.bl _)⟩
end
abbrev dNil : DA := fun s Q => Q [] s.k
abbrev dCons (t : DE) (u : DA) : DA := fun s Q => t s fun d k => u (s.at k) fun ds k' => Q (d :: ds) k'
abbrev dTup (t : DA) : DE := fun s Q => t s fun ds k => ds.length ≤ lim ∧ Q (.tup ds) k
section
variable {X : Cx} {c : C}
theorem pad_nil : PA X [] (LA c dNil) := pa_nil.weak fun σ H Q ⟨s, R, rp, q, f⟩ => f _ _ q [] H rp AdvE.refl .nil
theorem pad_cons {e : Expr} {es : List Expr} {t : DE} {u : DA} (ha : PE X e (LE c t)) (hr : PA X es (LA c u)) (hs : starEach (e :: es) X.env = (false, eval e X.env) :: starEach es X.env := by rfl) : PA X (e :: es) (LA c (dCons t u)) :=
  (pa_cons ha hr hs).weak fun σ H Q ⟨s, R, rp, q, f⟩ =>
    ⟨s, _, rp, q, fun d k hd v H1 r1 a1 e1 => ⟨s.at k, _, r1, hd, fun ds k2 h2 vs H2 r2 a2 e2 => f _ k2 h2 _ H2 r2 (a1.trans a2) (.cons (e1.mono a2.sub) e2)⟩⟩
theorem pd_tup {es : List Expr} {x1} {pos : Pos} {t : DA} (h : PA X es (LA c t)) : PE X (.Tuple es x1 pos) (LE c (dTup t)) :=
  (pe_tup h).weak fun σ H Q ⟨s, R, rp, q, f⟩ => by
    refine ⟨s, _, rp, q, fun ds k ⟨hl, hR⟩ vs H1 r1 a1 e1 => ⟨by rw [e1.len]; exact lim_le hl, ?_⟩⟩
    exact Wi.tup (c := c) (s := s.at k) (σ := σ) (R := fun d => d = .tup ds) (fun d hd v H' r' a' e' => by subst hd; exact f _ k hR v H' r' (a1.trans a') e') r1 rfl e1
theorem pd_bin {a b : Expr} {op : Operator} {pos : Pos} {ta tb : DE} {r : R2} {o : O2} (ho : OpR X (binaryOp op) r) (f : Fit2 c r o) (ha : PE X a (LE c ta)) (hb : PE X b (LE c tb)) : PE X (.BinOp a op b pos) (LE c (dOp o ta tb)) :=
  (pe_op ho ha hb).weak fun σ H Q h => LE.op f σ H Q h
theorem pd_add (hK : c.K = X.K) {a b : Expr} {pos : Pos} {ta tb : DE} (ha : PE X a (LE c ta)) (hb : PE X b (LE c tb)) : PE X (.BinOp a .Add b pos) (LE c (dOp oAdd ta tb)) := pd_bin (OpR.or op_add (OpR.or op_cat op_catA)) (fit_add hK) ha hb
theorem pd_mul (hK : c.K = X.K) {a b : Expr} {pos : Pos} {ta tb : DE} (ha : PE X a (LE c ta)) (hb : PE X b (LE c tb)) : PE X (.BinOp a .Mult b pos) (LE c (dOp oMul ta tb)) := pd_bin (OpR.or op_mul (OpR.or op_rep (OpR.or op_repT op_rep1))) (fit_mul hK) ha hb
theorem pd_sub {a b : Expr} {pos : Pos} {ta tb : DE} (ha : PE X a (LE c ta)) (hb : PE X b (LE c tb)) : PE X (.BinOp a .Sub b pos) (LE c (dOp oSub ta tb)) := pd_bin op_sub fit_sub ha hb
theorem pd_div {a b : Expr} {pos : Pos} {ta tb : DE} (ha : PE X a (LE c ta)) (hb : PE X b (LE c tb)) : PE X (.BinOp a .FloorDiv b pos) (LE c (dOp oDiv ta tb)) := pd_bin op_fdivW fit_div ha hb
theorem pd_mod {a b : Expr} {pos : Pos} {ta tb : DE} (ha : PE X a (LE c ta)) (hb : PE X b (LE c tb)) : PE X (.BinOp a .Mod b pos) (LE c (dOp oMod ta tb)) := pd_bin op_mod fit_mod ha hb
theorem pd_pow {a b : Expr} {pos : Pos} {ta tb : DE} (ha : PE X a (LE c ta)) (hb : PE X b (LE c tb)) : PE X (.BinOp a .Pow b pos) (LE c (dOp oPow ta tb)) := pd_bin op_pow fit_pow ha hb
theorem pd_ix (hK : c.K = X.K) {a b : Expr} {pos : Pos} {ta tb : DE} (ha : PE X a (LE c ta)) (hb : PE X b (LE c tb)) (hs : PlainIx b := by exact fun _ _ => rfl) : PE X (.Subscript a b pos) (LE c (dOp oIx ta tb)) :=
  (pe_ix ix_seq ha hb hs).weak fun σ H Q h => LE.op (fit_ix hK) σ H Q h
end
end DL
namespace DL
open PySem L2
open PySem.W (Frag)
def Yl (c : C) (s0 : S) (Hs : Hp) (J : It) (items : List D) : Prop := ∀ (i : Nat) (s : S) (σ : L2.St) (H : Hp), Rep c s σ H → Adv c s0 Hs s H →
  (items.length ≤ i → J.stop i H) ∧ ∀ d, items[i]? = some d → J.go i H ∧ ∀ x H', J.yld i H x H' → Rep c s σ H' ∧ AdvE c s.X H H' ∧ Rl c.K (c.hid s.X H') x d
abbrev DI := S → (List D → Nat → Prop) → Prop
def LI (c : C) (t : DI) : TI := fun σ H R => ∃ s Z, Rep c s σ H ∧ t s Z ∧ ∀ items k, Z items k → ∀ J H', Rep c (s.at k) σ H' → AdvE c s.X H H' → Yl c s H' J items → R J H'
abbrev iLst (t : DE) : DI := fun s Q => t s fun d k => ∃ ds, d = .lst ds ∧ Q ds k
abbrev iTp (t : DE) : DI := fun s Q => t s fun d k => ∃ ds, d = .tup ds ∧ Q ds k
@[reducible] def rngD (lo : Int) (n : Nat) : List D := (List.range n).map fun (i : Nat) => .int (lo + i)
abbrev iR1 (t : DE) : DI := fun s Q => t s fun d k => ∃ j, d = .int j ∧ -(2 ^ 62) ≤ j ∧ j < 2 ^ 62 ∧ Q (rngD 0 j.toNat) k
abbrev iR2 (t u : DE) : DI := fun s Q => t s fun d k => u (s.at k) fun e k' => ∃ i j, d = .int i ∧ e = .int j ∧ (-(2 ^ 62) ≤ i ∧ i < 2 ^ 62 ∧ -(2 ^ 62) ≤ j ∧ j < 2 ^ 62) ∧ Q (rngD i (j - i).toNat) k'
theorem rngD_at {lo : Int} {n i : Nat} {d : D} (h : (rngD lo n)[i]? = some d) : i < n ∧ d = .int (lo + i) := by
  unfold rngD at h
  rw [List.getElem?_map] at h
  by_cases hi : i < n
  · rw [List.getElem?_range hi] at h
    exact ⟨hi, (Option.some.inj h).symm⟩
  · rw [List.getElem?_eq_none (by rw [List.length_range]; omega)] at h
    cases h
theorem rngD_len (lo : Int) (n : Nat) : (rngD lo n).length = n := by unfold rngD; rw [List.length_map, List.length_range]
theorem Yl.range {c : C} {s0 : S} {Hs : Hp} {lo : Int} {n : Nat} : Yl c s0 Hs (Itr lo n) (rngD lo n) := fun i s σ H rp _ => by
  refine ⟨fun h => by rw [rngD_len] at h; exact h, fun d hd => ?_⟩
  obtain ⟨hi, rfl⟩ := rngD_at hd
  refine ⟨hi, fun x H' ⟨e1, e2⟩ => ?_⟩
  subst e1 e2
  exact ⟨rp, AdvE.refl, .int _⟩
theorem Yl.list {c : C} {s0 : S} {Hs : Hp} {K : Frag} {a : Addr} {vs : List V} {ds : List D} (hK : c.K = K) (h : c.hid s0.X Hs a = some (.lst vs)) (r : RlA c.K (c.hid s0.X Hs) vs ds) : Yl c s0 Hs (Itl K a) ds := fun i s σ H rp ad => by
  have h1 : SqL K H a vs := SqL.of (wo_sub _ _ _ _ (ad _ _ h))
  have r1 := r.mono ad
  refine ⟨fun hl => ⟨vs, h1, by rw [r.len]; exact hl⟩, fun d hd => ?_⟩
  obtain ⟨v, hv, hr⟩ := r1.getD hd
  refine ⟨⟨vs, v, h1, hv⟩, fun x H' ⟨e1, e2⟩ => ?_⟩
  subst e1
  have e3 := e2 vs h1
  rw [hv] at e3
  cases e3
  exact ⟨rp, AdvE.refl, hr⟩
theorem Yl.tup {c : C} {s0 : S} {Hs : Hp} {K : Frag} {a : Addr} {vs : List V} {ds : List D} (hK : c.K = K) (h : SqT c.K (c.hid s0.X Hs) a vs) (r : RlA c.K (c.hid s0.X Hs) vs ds) : Yl c s0 Hs (Itt K a) ds := fun i s σ H rp ad => by
  subst hK
  have h1 : SqT c.K H a vs := (ad.trans (wo_sub _ _)).st h
  have r1 := r.mono ad
  refine ⟨fun hl => ⟨vs, h1, by rw [r.len]; exact hl⟩, fun d hd => ?_⟩
  obtain ⟨v, hv, hr⟩ := r1.getD hd
  refine ⟨⟨vs, v, h1, hv⟩, fun x H' ⟨e1, e2⟩ => ?_⟩
  subst e1
  have e3 := e2 vs h1
  rw [hv] at e3
  cases e3
  exact ⟨rp, AdvE.refl, hr⟩
@[reducible] def pairD (as bs : List D) : List D := (as.zip bs).map fun p => .tup [p.1, p.2]
@[reducible] def enumD (n : Nat) : List D → List D
  | [] => []
  | d :: r => .tup [.int n, d] :: enumD (n + 1) r
theorem enum_at : ∀ {ds : List D} {n i : Nat} {d : D}, (enumD n ds)[i]? = some d → ∃ e, ds[i]? = some e ∧ d = .tup [.int ((n + i : Nat) : Int), e]
  | [], _, _, _, h => by cases h
  | e :: r, n, 0, d, h => ⟨e, rfl, (Option.some.inj h).symm⟩
  | e :: r, n, i + 1, d, h => by
    obtain ⟨x, h1, h2⟩ := enum_at (ds := r) (n := n + 1) (i := i) h
    exact ⟨x, h1, by rw [h2]; congr 3; omega⟩
theorem enum_len : ∀ (ds : List D) (n : Nat), (enumD n ds).length = ds.length
  | [], _ => rfl
  | _ :: r, n => congrArg (· + 1) (enum_len r (n + 1))
theorem Yl.pair {c : C} {s : S} {σ : L2.St} {H : Hp} {T : Addr} {x y : V} {d e : D} (rp : Rep c s σ H) (hT : H T = none) (h1 : Rl c.K (c.hid s.X H) x d) (h2 : Rl c.K (c.hid s.X H) y e) :
    Rep c s σ (upd H T (.tup [x, y])) ∧ AdvE c s.X H (upd H T (.tup [x, y])) ∧ Rl c.K (c.hid s.X (upd H T (.tup [x, y]))) (.ref T) (.tup [d, e]) := by
  have n := rp.new (o := .tup [x, y]) hT
  exact ⟨n.1, n.2, .tup (SqT.of (rp.at_new hT)) (.cons (h1.mono n.2.sub) (.cons (h2.mono n.2.sub) .nil))⟩
theorem pair_at {as bs : List D} {i : Nat} {d : D} (h : (pairD as bs)[i]? = some d) : ∃ x y, as[i]? = some x ∧ bs[i]? = some y ∧ d = .tup [x, y] := by
  unfold pairD at h
  rw [List.getElem?_map] at h
  cases e : (as.zip bs)[i]? with
  | none => rw [e] at h; cases h
  | some p =>
    rw [e] at h
    obtain ⟨h1, h2⟩ := List.getElem?_zip_eq_some.mp e
    exact ⟨p.1, p.2, h1, h2, (Option.some.inj h).symm⟩
theorem pair_len (as bs : List D) : (pairD as bs).length = min as.length bs.length := by unfold pairD; rw [List.length_map, List.length_zip]
theorem Yl.zipT {c : C} {s0 : S} {Hs : Hp} {K : Frag} {a b : Addr} {vs us : List V} {ds es : List D} (hK : c.K = K) (h : SqT c.K (c.hid s0.X Hs) a vs) (r : RlA c.K (c.hid s0.X Hs) vs ds)
    (h' : SqT c.K (c.hid s0.X Hs) b us) (r' : RlA c.K (c.hid s0.X Hs) us es) : Yl c s0 Hs (RZ.ItzT K a b) (pairD ds es) := fun i s σ H rp ad => by
  subst hK
  have h1 : SqT c.K H a vs := (ad.trans (wo_sub _ _)).st h
  have h2 : SqT c.K H b us := (ad.trans (wo_sub _ _)).st h'
  have r1 := r.mono ad
  have r2 := r'.mono ad
  refine ⟨fun hl => ⟨vs, us, h1, h2, by rw [pair_len] at hl; rw [r.len, r'.len]; omega⟩, fun d hd => ?_⟩
  obtain ⟨x, y, hx, hy, rfl⟩ := pair_at hd
  obtain ⟨v, hv, hr⟩ := r1.getD hx
  obtain ⟨u, hu, hr'⟩ := r2.getD hy
  refine ⟨⟨vs, us, v, u, h1, h2, hv, hu⟩, fun z H' ⟨T, v', u', e1, e2, e3, e4, e5⟩ => ?_⟩
  subst e1 e3
  have q1 := e4 vs h1
  have q2 := e5 us h2
  rw [hv] at q1
  rw [hu] at q2
  cases q1
  cases q2
  exact Yl.pair rp e2 hr hr'
section
variable {X : Cx} {c : C} {tg : Expr}
theorem PI.weak {iter : Expr} {t t' : TI} (h : PI X tg iter t) (w : ∀ σ H R, t' σ H R → t σ H R) : PI X tg iter t' := ⟨fun p s σ H R I q => h.run p s σ H R I (w _ _ _ q)⟩
theorem pid_list (hK : c.K = X.K) {l : Expr} {t : DE} (h : PE X l (LE c t)) : PI X tg l (LI c (iLst t)) :=
  PI.weak (pi_list h) fun σ H R ⟨s, Z, rp, q, f⟩ => ⟨s, _, rp, q, fun d k ⟨ds, hd, hz⟩ v H1 r1 a1 e1 => by
    subst hd
    obtain ⟨a, vs, rfl, h1, r⟩ := e1.lstE
    exact ⟨a, rfl, ⟨vs, SqL.of (wo_sub _ _ _ _ h1)⟩, f ds k hz _ H1 r1 a1 (Yl.list hK h1 r)⟩⟩
theorem pid_tup (hK : c.K = X.K) {l : Expr} {t : DE} (h : PE X l (LE c t)) : PI X tg l (LI c (iTp t)) :=
  PI.weak (pi_tup h) fun σ H R ⟨s, Z, rp, q, f⟩ => ⟨s, _, rp, q, fun d k ⟨ds, hd, hz⟩ v H1 r1 a1 e1 => by
    subst hd
    obtain ⟨a, vs, rfl, h1, r⟩ := e1.tupE
    exact ⟨a, rfl, ⟨vs, hK ▸ (wo_sub _ _).st h1⟩, f ds k hz _ H1 r1 a1 (Yl.tup hK h1 r)⟩⟩
theorem pid_r1 {a : Expr} {t : DE} {p pos : Pos} (hm : X.mg "range" = none) (ha : PE X a (LE c t)) (hg : Gl X "range" := by rfl) (hs : starEach [a] X.env = [(false, eval a X.env)] := by rfl) : PI X tg (.Call (.Name "range" p) [a] [] pos) (LI c (iR1 t)) :=
  PI.weak (pi_range1 hg hm (pad_cons ha pad_nil hs) hs) fun σ H R ⟨s, Z, rp, q, f⟩ =>
    ⟨s, fun ds k => (match ds with | [d] => ∃ j, d = .int j ∧ -(2 ^ 62) ≤ j ∧ j < 2 ^ 62 ∧ Z (rngD 0 j.toNat) k | _ => False), rp, q, fun ds k hq vs H1 r1 a1 e1 => by
      cases e1 with
      | nil => exact hq.elim
      | cons e1 e2 =>
        cases e2 with
        | cons _ _ => exact hq.elim
        | nil =>
          obtain ⟨j, hd, h1, h2, hz⟩ := hq
          subst hd
          cases e1.intE
          exact ⟨j, rfl, h1, h2, f _ k hz _ H1 r1 a1 Yl.range⟩⟩
theorem pid_r2 {a b : Expr} {t u : DE} {p pos : Pos} (hm : X.mg "range" = none) (ha : PE X a (LE c t)) (hb : PE X b (LE c u)) (hg : Gl X "range" := by rfl) (hs : starEach [a, b] X.env = [(false, eval a X.env), (false, eval b X.env)] := by rfl) (hs2 : starEach [b] X.env = [(false, eval b X.env)] := by rfl) :
    PI X tg (.Call (.Name "range" p) [a, b] [] pos) (LI c (iR2 t u)) :=
  PI.weak (pi_range2 hg hm (pad_cons ha (pad_cons hb pad_nil hs2) (by rw [hs, hs2])) hs hs2) fun σ H R ⟨s, Z, rp, q, f⟩ =>
    ⟨s, fun ds k => (match ds with | [d, e] => ∃ i j, d = .int i ∧ e = .int j ∧ (-(2 ^ 62) ≤ i ∧ i < 2 ^ 62 ∧ -(2 ^ 62) ≤ j ∧ j < 2 ^ 62) ∧ Z (rngD i (j - i).toNat) k | _ => False), rp, q, fun ds k hq vs H1 r1 a1 e1 => by
      cases e1 with
      | nil => exact hq.elim
      | cons e1 e2 =>
        cases e2 with
        | nil => exact hq.elim
        | cons e2 e3 =>
          cases e3 with
          | cons _ _ => exact hq.elim
          | nil =>
            obtain ⟨i, j, hd, he, h1, hz⟩ := hq
            subst hd he
            cases e1.intE
            cases e2.intE
            exact ⟨i, j, rfl, h1, f _ k hz _ H1 r1 a1 Yl.range⟩⟩
abbrev iZp (t u : DE) : DI := fun s Q => t s fun d k => u (s.at k) fun e k' => ∃ ds es, d = .tup ds ∧ e = .tup es ∧ Q (pairD ds es) k'
theorem pid_zip (hK : c.K = X.K) {e e2 : Expr} {t u : DE} {p pos tpos : Pos} {elts : List Expr} {kk : Nat} (hm : X.mg "zip" = none) (h : PE X e (LE c t)) (h' : PE X e2 (LE c u)) (hg : Gl X "zip" := by rfl)
    (hs : starEach [e, e2] X.env = (false, eval e X.env) :: starEach [e2] X.env := by rfl) (hs2 : starEach [e2] X.env = (false, eval e2 X.env) :: starEach [] X.env := by rfl) (hpl : (backTo pos (starEach [e2] X.env)).any (·.1) = false := by rfl) :
    PI X (.Tuple elts kk tpos) (.Call (.Name "zip" p) [e, e2] [] pos) (LI c (iZp t u)) :=
  PI.weak (RZ.pi_zipA hg hm (pad_cons h (pad_cons h' pad_nil hs2) hs) hs hpl) fun σ H R ⟨s, Z, rp, q, f⟩ =>
    ⟨s, fun ds k => (match ds with | [d, e] => ∃ ds es, d = .tup ds ∧ e = .tup es ∧ Z (pairD ds es) k | _ => False), rp, q, fun ds k hq vs H1 r1 a1 e1 => by
      cases e1 with
      | nil => exact hq.elim
      | cons e1 e2 =>
        cases e2 with
        | nil => exact hq.elim
        | cons e2 e3 =>
          cases e3 with
          | cons _ _ => exact hq.elim
          | nil =>
            obtain ⟨i, j, hd, he, hz⟩ := hq
            subst hd he
            obtain ⟨a, vs, rfl, h1, r⟩ := e1.tupE
            obtain ⟨b, us, rfl, h2, r'⟩ := e2.tupE
            exact ⟨a, b, vs, us, rfl, .inr ⟨hK ▸ (wo_sub _ _).st h1, hK ▸ (wo_sub _ _).st h2, f _ k hz _ H1 r1 a1 (Yl.zipT hK h1 r h2 r')⟩⟩⟩
end
end DL
namespace DL
open PySem L2
open PySem.W (Frag)
abbrev S.put (s : S) (i : Nat) (x : Sl) : S := { s with sl := s.sl.set i x }
theorem get_set_cases {α : Type} {l : List α} {i j : Nat} {x y : α} (h : (l.set i x)[j]? = some y) : (i = j ∧ y = x ∧ j < l.length) ∨ (i ≠ j ∧ l[j]? = some y) := by
  by_cases e : i = j
  · subst e
    by_cases hl : i < l.length
    · rw [List.getElem?_set_self hl] at h
      exact .inl ⟨rfl, (Option.some.inj h).symm, hl⟩
    · rw [List.getElem?_eq_none (by rw [List.length_set]; omega)] at h
      cases h
  · rw [List.getElem?_set_ne e] at h
    exact .inr ⟨e, h⟩
theorem Rep.put {c : C} {s : S} {σ : L2.St} {H : Hp} {i : Nat} {v : V} {x : Sl} (r : Rep c s σ H) (h : SlOk c s.X H (some (some v)) x) (ha : ∀ p ds, x = .own p ds → ∀ j q es, s.sl[j]? = some (.own q es) → j ≠ i → p ≠ q) : Rep c (s.put i x) (σ.set i (some v)) H := by
  refine ⟨r.sub, r.old, r.x0, r.xm, r.xs, r.m, fun j y e => ?_, fun j k p q ds es e1 e2 ne => ?_, by rw [List.length_set, List.length_set]; exact r.len, r.tb, r.xt⟩
  · rcases get_set_cases e with ⟨rfl, rfl, hl⟩ | ⟨ne, e⟩
    · rw [List.getElem?_set_self (by rw [← r.len]; exact hl)]
      exact h
    · rw [List.getElem?_set_ne ne]
      exact r.slot j y e
  · rcases get_set_cases e1 with ⟨rfl, e1, _⟩ | ⟨n1, e1⟩
    · rcases get_set_cases e2 with ⟨rfl, _, _⟩ | ⟨n2, e2⟩
      · exact absurd rfl ne
      · exact ha p ds e1.symm k q es e2 (fun z => n2 z.symm)
    · rcases get_set_cases e2 with ⟨rfl, e2, _⟩ | ⟨n2, e2⟩
      · exact fun z => ha q es e2.symm j p ds e1 (fun z => n1 z.symm) z.symm
      · exact r.apart j k p q ds es e1 e2 ne
theorem Rep.putD {c : C} {s : S} {σ : L2.St} {H : Hp} {i : Nat} {v : V} {d : D} (r : Rep c s σ H) (h : Rl c.K (c.hid s.X H) v d) : Rep c (s.put i (.dat d)) (σ.set i (some v)) H := r.put ⟨v, rfl, h⟩ fun p ds e => nomatch e
theorem Rep.wipe1 {c : C} {s : S} {σ : L2.St} {H : Hp} {i : Nat} (r : Rep c s σ H) : Rep c (s.put i .no) (σ.set i none) H := by
  refine ⟨r.sub, r.old, r.x0, r.xm, r.xs, r.m, fun j y e => ?_, fun j k p q ds es e1 e2 ne => ?_, by rw [List.length_set, List.length_set]; exact r.len, r.tb, r.xt⟩
  · rcases get_set_cases e with ⟨rfl, rfl, hl⟩ | ⟨ne, e⟩
    · trivial
    · rw [List.getElem?_set_ne ne]
      exact r.slot j y e
  · rcases get_set_cases e1 with ⟨rfl, e1, _⟩ | ⟨n1, e1⟩
    · cases e1
    · rcases get_set_cases e2 with ⟨rfl, e2, _⟩ | ⟨n2, e2⟩
      · cases e2
      · exact r.apart j k p q ds es e1 e2 ne
@[reducible] def S.wipe (s : S) : List Nat → S
  | [] => s
  | v :: vs => (s.wipe vs).put v .no
theorem S.wipe_X (s : S) : ∀ vs, (s.wipe vs).X = s.X ∧ (s.wipe vs).k = s.k
  | [] => ⟨rfl, rfl⟩
  | v :: vs => s.wipe_X vs
theorem Rep.wipe {c : C} {s : S} {σ : L2.St} {H : Hp} (r : Rep c s σ H) : ∀ vs, Rep c (s.wipe vs) (L2.wipe σ vs) H
  | [] => r
  | v :: vs => (r.wipe vs).wipe1
abbrev DG := D → S → (S → Prop) → Prop
abbrev DGs := List D → S → (S → Prop) → Prop
def LG (c : C) (ts : List Nat) (t : DG) : TG := fun v σ H Q => ∃ s R d, Rep c s σ H ∧ Rl c.K (c.hid s.X H) v d ∧ t d s R ∧ ∀ s', R s' → ∀ σ' H', Rep c s' σ' H' → AdvE c s.X H H' → s'.X = s.X → (∀ j, j ∉ ts → σ'[j]? = σ[j]?) → σ'.length = σ.length → Q σ' H'
def LGs (c : C) (ts : List Nat) (t : DGs) : TGs := fun v σ H Q => ∃ s R d, Rep c s σ H ∧ RlA c.K (c.hid s.X H) v d ∧ t d s R ∧ ∀ s', R s' → ∀ σ' H', Rep c s' σ' H' → AdvE c s.X H H' → s'.X = s.X → (∀ j, j ∉ ts → σ'[j]? = σ[j]?) → σ'.length = σ.length → Q σ' H'
abbrev dgN (i : Nat) : DG := fun d s Q => Q (s.put i (.dat d))
abbrev dgNil : DGs := fun ds s Q => ds = [] ∧ Q s
abbrev dgCons (t : DG) (u : DGs) : DGs := fun ds s Q => match ds with | d :: r => t d s fun s' => u r s' Q | [] => False
abbrev dgTup (n : Nat) (t : DGs) : DG := fun d s Q => match d with | .tup ds => ds.length = n ∧ t ds s Q | _ => False
section
variable {X : Cx} {c : C} {pos : Pos}
theorem PG.weak {tg : Expr} {t t' : TG} (h : PG X tg t) (w : ∀ v σ H Q, t' v σ H Q → t v σ H Q) : PG X tg t' := ⟨fun p s σ H v u Q I r q => h.run p s σ H v u Q I r (w _ _ _ _ q)⟩
theorem PGs.weak {tg : List Expr} {t t' : TGs} (h : PGs X tg t) (w : ∀ v σ H Q, t' v σ H Q → t v σ H Q) : PGs X tg t' := ⟨fun p s σ H v u Q I r q => h.run p s σ H v u Q I r (w _ _ _ _ q)⟩
theorem pgd_name (i : Nat) {x : PySem.Str} (hN : X.N.Nodup) (hi : X.N[i]? = some x := by rfl) (hx : Loc X.env.scope x := by first | exact Or.inl rfl | exact Or.inr rfl) (hf : X.fn x = true ∨ X.env.scope.names.lookup x = some .local := by first | exact .inl rfl | exact .inr rfl) : PG X (.Name x pos) (LG c [i] (dgN i)) :=
  PG.weak (pg_name hN hi hx hf) fun v σ H Q ⟨s, R, d, rp, e, q, f⟩ => f _ q _ H (rp.putD e) AdvE.refl rfl (fun j hj => List.getElem?_set_ne (fun z => hj (by simp [z]))) (List.length_set ..)
theorem pgds_nil : PGs X [] (LGs c [] dgNil) := PGs.weak pgs_nil fun v σ H Q ⟨s, R, d, rp, e, ⟨q1, q2⟩, f⟩ => by
  subst q1
  cases e
  exact ⟨rfl, f _ q2 _ H rp AdvE.refl rfl (fun _ _ => rfl) rfl⟩
theorem pgds_cons {e : Expr} {es : List Expr} {ts us : List Nat} {t : DG} {u : DGs} (h1 : PG X e (LG c ts t)) (h2 : PGs X es (LGs c us u)) (hs : (assignEach (e :: es) X.env).map (·.2) = assign e X.env :: (assignEach es X.env).map (·.2) := by rfl) : PGs X (e :: es) (LGs c (ts ++ us) (dgCons t u)) :=
  PGs.weak (pgs_cons h1 h2 hs) fun vs σ H Q ⟨s, R, ds, rp, r, q, f⟩ => by
    cases r with
    | nil => exact q.elim
    | cons r1 rr =>
      refine ⟨_, _, rfl, s, _, _, rp, r1, q, fun s1 q1 σ1 H1 rp1 a1 x1 k1 l1 => ?_⟩
      refine ⟨s1, _, _, rp1, ?_, q1, fun s2 q2 σ2 H2 rp2 a2 x2 k2 l2 => f s2 q2 σ2 H2 rp2 (a1.trans (x1 ▸ a2)) (x2.trans x1) (fun j hj => ?_) (l2.trans l1)⟩
      · rw [x1]; exact rr.mono a1.sub
      · rw [k2 j fun z => hj (List.mem_append_right _ z), k1 j fun z => hj (List.mem_append_left _ z)]
theorem pgd_tup (hK : c.K = X.K) (hc : X.calm = true) {es : List Expr} {kk : Nat} {ts : List Nat} {t : DGs} {n : Nat} (h : PGs X es (LGs c ts t)) (hn : (assignEach es X.env).length = n := by rfl) (hst : (assignEach es X.env).findIdx? (·.1) = none := by rfl) : PG X (.Tuple es kk pos) (LG c ts (dgTup n t)) :=
  PG.weak (pg_tup hc h hn hst) fun v σ H Q ⟨s, R, d, rp, r, q, f⟩ => by
    cases d <;> first | exact q.elim | skip
    obtain ⟨a, vs, rfl, h1, r1⟩ := r.tupE
    exact ⟨a, vs, rfl, hK ▸ (wo_sub _ _).st h1, r1.len.trans q.1, s, R, _, rp, r1, q.2, f⟩
end
abbrev S.own (s : S) (p : Addr) (k : Nat) : S := { s with X := p :: s.X, k := k }
structure NewL (c : C) (s : S) (σ : L2.St) (H : Hp) (p : Addr) (k : Nat) (ds : List D) (H' : Hp) : Prop where
  rep : Rep c (s.own p k) σ H'
  sub : Sub (c.hid s.X H) (c.hid (p :: s.X) H')
  own : ∀ a ∈ s.X, H' a = H a
  out : p ∉ s.X
  out0 : p ∉ c.X0
  new : c.H0 p = none
  vals : ∃ vs, H' p = some (.lst vs) ∧ RlA c.K (c.hid (p :: s.X) H') vs ds
def LF (c : C) (t : DA) : TE := fun σ H Q => ∃ s R, Rep c s σ H ∧ t s R ∧ ∀ ds k, R ds k → ∀ p H', NewL c s σ H p k ds H' → Q (.ref p) H'
abbrev dFr (t : DA) : DE := fun s Q => t s fun ds k => Q (.lst ds) k
theorem hid_cons (c : C) (p : Addr) (X : List Addr) (H : Hp) : Sub (c.hid (p :: X) H) (c.hid X H) := wo_more fun a h => by
  rcases List.mem_append.mp h with h | h
  · exact List.mem_append_left _ h
  · exact List.mem_append_right _ (List.mem_cons_of_mem _ h)
theorem Rep.nofree {c : C} {s : S} {σ : L2.St} {H : Hp} {p : Addr} (r : Rep c s σ H) (hp : H p = none) : p ∉ s.X ∧ p ∉ Ml c.M ∧ p ∉ c.X0 ∧ c.H0 p = none := by
  have h1 : p ∉ s.X := fun z => r.xs p z hp
  have h2 : p ∉ Ml c.M := fun z => r.m.there p z hp
  have h3 : p ∉ c.X0 := fun z => h1 (r.x0 p z)
  refine ⟨h1, h2, h3, ?_⟩
  cases e : c.H0 p with
  | none => rfl
  | some o =>
    by_cases t : NoTb o
    · have q := r.sub p o (wo_of (by intro z; rcases List.mem_append.mp z with z | z; exact h2 z; exact h3 z) e t)
      rw [(wo_ne q).2] at hp
      cases hp
    · exfalso
      refine t fun ps z => ?_
      subst z
      obtain ⟨qs, q⟩ := r.tb.tbl p ps e
      rw [hp] at q
      cases q
theorem Rep.hide {c : C} {s : S} {σ : L2.St} {H : Hp} {p : Addr} {o : HO} (r : Rep c s σ H) (hp : H p = none) (ht : NoTb o := by intro _ z; cases z) : Rep c (s.own p s.k) σ (upd H p o) ∧ Sub (c.hid s.X H) (c.hid (p :: s.X) (upd H p o)) := by
  obtain ⟨n1, n2, n3, n4⟩ := r.nofree hp
  have sb : Sub (c.hid s.X H) (c.hid (p :: s.X) (upd H p o)) := fun a u e => by
    obtain ⟨n, e⟩ := wo_ne e
    have np : a ≠ p := ne_of_none e hp
    refine wo_of (fun z => ?_) (by rw [upd_ne np]; exact e)
    rcases List.mem_append.mp z with z | z
    · exact n (List.mem_append_left _ z)
    · rcases List.mem_cons.mp z with z | z
      · exact np z
      · exact n (List.mem_append_right _ z)
  have eq : ∀ a, H a ≠ none → upd H p o a = H a := fun a h => upd_ne fun z => h (z ▸ hp)
  refine ⟨⟨r.sub.trans sb, fun a ha hm hn => ?_, fun a ha => List.mem_cons_of_mem _ (r.x0 a ha), fun a ha => ?_, fun a ha => ?_, r.m.eq (fun a ha hn => eq a hn) (.new hp), fun i x e => ?_, r.apart, r.len, r.tb.trans (.new hp), fun a ha => (List.mem_cons.mp ha).elim (fun z => by rw [z, upd_same]; exact fun ps e => ht ps (Option.some.inj e)) fun z => by rw [eq a (r.xs a z)]; exact r.xt a z⟩, sb⟩
  · rw [eq a (r.xs a (r.x0 a ha))]; exact r.old a ha hm hn
  · rcases List.mem_cons.mp ha with z | z
    · rw [z]; exact n2
    · exact r.xm a z
  · rcases List.mem_cons.mp ha with z | z
    · rw [z, upd_same]; simp
    · rw [eq a (r.xs a z)]; exact r.xs a z
  · have q := r.slot i x e
    cases x with
    | no => trivial
    | dat d =>
      obtain ⟨v, e, h⟩ := q
      exact ⟨v, e, h.mono sb⟩
    | own w ds =>
      obtain ⟨e, h1, h2, h3, vs, h4, h5⟩ := q
      exact ⟨e, List.mem_cons_of_mem _ h1, h2, h3, vs, by rw [eq w (r.xs w h1)]; exact h4, h5.mono sb⟩
    | mst => exact q
    | kds N Z => exact q
    | scr ns =>
      obtain ⟨v, e, h⟩ := q
      exact ⟨v, e, sb.sl h⟩
theorem Rep.show {c : C} {s : S} {σ : L2.St} {H : Hp} {p : Addr} {k : Nat} (r : Rep c (s.own p k) σ H) (hp : p ∉ s.X) (h0 : p ∉ c.X0) (hs : ∀ (i : Nat) (ds : List D), s.sl[i]? ≠ some (.own p ds)) : Rep c (s.at k) σ H := by
  have sb := hid_cons c p s.X H
  refine ⟨r.sub.trans sb, r.old, fun a ha => ?_, fun a ha => r.xm a (List.mem_cons_of_mem _ ha), fun a ha => r.xs a (List.mem_cons_of_mem _ ha), r.m, fun i x e => ?_, r.apart, r.len, r.tb, fun a ha => r.xt a (List.mem_cons_of_mem _ ha)⟩
  · rcases List.mem_cons.mp (r.x0 a ha) with z | z
    · exact absurd (z ▸ ha) h0
    · exact z
  · have q := r.slot i x e
    cases x with
    | no => trivial
    | dat d =>
      obtain ⟨v, e, h⟩ := q
      exact ⟨v, e, h.mono sb⟩
    | own w ds =>
      obtain ⟨e', h1, h2, h3, vs, h4, h5⟩ := q
      refine ⟨e', ?_, h2, h3, vs, h4, h5.mono sb⟩
      rcases List.mem_cons.mp h1 with z | z
      · exact absurd (z ▸ e) (hs i ds)
      · exact z
    | mst => exact q
    | kds N Z => exact q
    | scr ns =>
      obtain ⟨v, e, h⟩ := q
      exact ⟨v, e, sb.sl h⟩
theorem Rep.noslot {c : C} {s : S} {σ : L2.St} {H : Hp} {p : Addr} (r : Rep c s σ H) (hp : p ∉ s.X) (i : Nat) (ds : List D) : s.sl[i]? ≠ some (.own p ds) := fun e => hp (r.slot i _ e).2.1
section
variable {X : Cx} {c : C}
theorem LF.data {t : DA} {σ : L2.St} {H : Hp} {Q : VK} (h : LE c (dFr t) σ H Q) : LF c t σ H Q := by
  obtain ⟨s, R, rp, q, f⟩ := h
  refine ⟨s, _, rp, q, fun ds k hR p H' n => ?_⟩
  have sb := hid_cons c p s.X H'
  obtain ⟨vs, h1, h2⟩ := n.vals
  refine f _ k hR _ H' (n.rep.show n.out n.out0 (fun i es => rp.noslot n.out i es)) ⟨n.sub.trans sb, n.own⟩ (.lst (wo_of ?_ h1) (h2.mono sb))
  intro z
  rcases List.mem_append.mp z with z | z
  · exact n.rep.xm p List.mem_cons_self z
  · exact n.out z
theorem pd_fr {e : Expr} {t : DA} (h : PE X e (LF c t)) : PE X e (LE c (dFr t)) := h.weak fun σ H Q q => LF.data q
theorem NewL.mk' {s : S} {σ : L2.St} {H H1 : Hp} {k : Nat} {ds : List D} {vs : List V} {p : Addr} (r : Rep c (s.at k) σ H1) (a : AdvE c s.X H H1) (e : RlA c.K (c.hid s.X H1) vs ds) (hp : H1 p = none) : NewL c s σ H p k ds (upd H1 p (.lst vs)) := by
  obtain ⟨n1, n2, n3, n4⟩ := r.nofree hp
  have h := r.hide (o := .lst vs) hp
  exact ⟨h.1, a.sub.trans h.2, fun x hx => by rw [upd_ne (fun z => n1 (show p ∈ s.X by rw [← z]; exact hx))]; exact a.own x hx, n1, n3, n4, vs, upd_same, e.mono h.2⟩
abbrev dLs (t : DA) : DA := fun s Q => t s fun ds k => ds.length ≤ lim ∧ Q ds k
theorem pdf_lst {es : List Expr} {pos : Pos} {t : DA} (h : PA X es (LA c t)) : PE X (.List es pos) (LF c (dLs t)) :=
  (pe_lst h).weak fun σ H Q ⟨s, R, rp, q, f⟩ => ⟨s, _, rp, q, fun ds k ⟨hl, hR⟩ vs H1 r1 a1 e1 => ⟨by rw [e1.len]; exact lim_le hl, fun p hp => f ds k hR p _ (NewL.mk' r1 a1 e1 hp)⟩⟩
end
end DL
namespace DL
open PySem L2
open PySem.W (Frag)
abbrev dLc (it : DI) (g : DG) (tt : DT) (te : DE) (vs : List Nat) : DA := fun s Q => it s fun items k0 => items.length ≤ lim ∧ ∀ p, p ∉ s.X → ∃ Inv : Nat → List D → Nat → Prop, Inv 0 [] k0 ∧
  (∀ i d acc k, items[i]? = some d → Inv i acc k → acc.length ≤ i → g d (((s.own p k).wipe vs)) fun s2 => tt s2 fun b k2 => if b = true then te (s2.at k2) fun y k3 => Inv (i + 1) (acc ++ [y]) k3 else Inv (i + 1) acc k2) ∧
  ∀ acc k, Inv items.length acc k → acc.length ≤ items.length → Q acc k
abbrev dY : DT := fun s Q => Q true s.k
theorem wipe_ext {vs : List Nat} : ∀ {σ τ : L2.St}, σ.length = τ.length → (∀ j, j ∉ vs → σ[j]? = τ[j]?) → wipe σ vs = wipe τ vs := by
  have get : ∀ (vs : List Nat) (σ : L2.St) (j : Nat), (wipe σ vs)[j]? = if j ∈ vs then (if j < σ.length then some none else none) else σ[j]? := by
    intro vs
    induction vs with
    | nil => intro σ j; simp [wipe]
    | cons v r ih =>
      intro σ j
      show ((wipe σ r).set v none)[j]? = _
      by_cases e : v = j
      · subst e
        by_cases hl : v < σ.length
        · rw [List.getElem?_set_self (by rw [wipe_length]; exact hl)]
          simp [hl]
        · rw [List.getElem?_eq_none (by rw [List.length_set, wipe_length]; omega)]
          simp [hl]
      · rw [List.getElem?_set_ne e, ih]
        have : j ≠ v := fun z => e z.symm
        simp [this]
  intro σ τ hl h
  refine List.ext_getElem? fun j => ?_
  rw [get, get]
  by_cases hj : j ∈ vs
  · simp [hj, hl]
  · simp [hj, h j hj]
theorem pts_none {X : Cx} {c : C} : PTs X [] (LT c dY) := ⟨fun pins s σ H Q I ⟨st, R, rp, q, f⟩ => pts_nil.run pins s σ H Q I (f _ _ q H rp AdvE.refl)⟩
theorem ptsd_one {X : Cx} {c : C} {e : Expr} {t : DT} (h : PT X e (LT c t)) : PTs X [e] (LT c t) := pts_one h
theorem lc_imp {c : C} {own : List (PySem.Str × Nat)} {wi : DI} {g : DG} {tt : DT} {te : DE} {ts : List Nat} (hts : ∀ j ∈ ts, j ∈ own.map (·.2)) (σ : L2.St) (H : Hp) (Q : VK) (h : LF c (dLc wi g tt te (own.map (·.2))) σ H Q) :
    tLc (LI c wi) (LG c ts g) (LT c tt) (LE c te) (own.map (·.2)) σ H Q := by
    obtain ⟨s, R, rp, q, f⟩ := h
    refine ⟨s, _, rp, q, fun items k0 hz J H1 r1 a1 yl D hD => ?_⟩
    obtain ⟨hl, hz⟩ := hz
    obtain ⟨n1, n2, n3, n4⟩ := r1.nofree hD
    obtain ⟨Inv, i0, turn, fin⟩ := hz D n1
    have hid0 := r1.hide (o := .lst []) hD
    -- the state at turn i: D holds the values of acc
    refine ⟨fun i m H' => m = items.length - i ∧ i ≤ items.length ∧ ∃ acc vs k, Inv i acc k ∧ acc.length ≤ i ∧ H' D = some (.lst vs) ∧ Rep c (s.own D k) σ H' ∧ Sub (c.hid s.X H1) (c.hid (D :: s.X) H') ∧ (∀ a ∈ s.X, H' a = H1 a) ∧ RlA c.K (c.hid (D :: s.X) H') vs acc,
      ⟨items.length, by simp, Nat.zero_le _, [], [], k0, i0, Nat.le_refl _, upd_same, hid0.1, hid0.2, fun a ha => upd_ne fun z => n1 (show D ∈ s.X by rw [← z]; exact ha), .nil⟩, ?_⟩
    rintro i m H' ⟨rfl, hi', acc, vs, k, hI, hlen, hD', rp', sb, ow, ra⟩
    obtain ⟨yl1, yl2⟩ := yl i (s.own D k) σ H' rp' sb
    by_cases hlt : i < items.length
    · obtain ⟨d, hd⟩ : ∃ d, items[i]? = some d := ⟨items[i], by simp [hlt]⟩
      obtain ⟨go, yd⟩ := yl2 d hd
      refine .inr ⟨go, fun H'' => ∃ acc vs k, Inv (i + 1) acc k ∧ acc.length ≤ i + 1 ∧ H'' D = some (.lst vs) ∧ Rep c (s.own D k) σ H'' ∧ Sub (c.hid s.X H1) (c.hid (D :: s.X) H'') ∧ (∀ a ∈ s.X, H'' a = H1 a) ∧ RlA c.K (c.hid (D :: s.X) H'') vs acc,
        fun H'' ⟨acc, vs, k, h⟩ => ⟨items.length - (i + 1), by omega, rfl, hlt, acc, vs, k, h⟩, fun x H2 hy => ?_⟩
      obtain ⟨r2, a2, e2⟩ := yd x H2 hy
      have xw : ((s.own D k).wipe (own.map (·.2))).X = D :: s.X := ((s.own D k).wipe_X _).1
      refine ⟨(s.own D k).wipe (own.map (·.2)), _, d, r2.wipe _, by rw [xw]; exact e2, turn i d acc k hd hI hlen, fun s3 h3 σ3 H3 r3 a3 x3 k3 l3 => ?_⟩
      have x3' : s3.X = D :: s.X := x3.trans xw
      have a3' : AdvE c (D :: s.X) H2 H3 := xw ▸ a3
      have we : wipe σ3 (own.map (·.2)) = wipe σ (own.map (·.2)) := by
        have q1 : wipe σ3 (own.map (·.2)) = wipe (wipe σ (own.map (·.2))) (own.map (·.2)) := wipe_ext l3 fun j hj => k3 j fun z => hj (hts j z)
        rw [q1]
        refine wipe_ext (wipe_length _ _) fun j hj => ?_
        have := @wipe_ext (own.map (·.2))
        -- outside the own slots nothing is wiped
        have aux : ∀ (vs : List Nat), (∀ v ∈ vs, v ∈ own.map (·.2)) → (wipe σ vs)[j]? = σ[j]? := by
          intro vs
          induction vs with
          | nil => intro _; rfl
          | cons v r ih =>
            intro hv
            show ((wipe σ r).set v none)[j]? = _
            rw [List.getElem?_set_ne (fun z => hj (show j ∈ own.map (·.2) by rw [← z]; exact hv v List.mem_cons_self)), ih fun w hw => hv w (List.mem_cons_of_mem _ hw)]
        exact aux _ fun _ h => h
      refine ⟨we, ?_⟩
      -- back to the frame's slots: what the block knows of σ3 is not asked any more
      have back : ∀ {k' : Nat} {H4 : Hp}, Rep c (s3.at k') σ3 H4 → AdvE c (D :: s.X) H3 H4 → Rep c (s.own D k') σ H4 := fun {k' H4} r4 a4 => by
        have st : Sub (c.hid (D :: s.X) H') (c.hid (D :: s.X) H4) := (a2.sub.trans a3'.sub).trans a4.sub
        exact rp'.step (k := k') st (fun a ha _ => ((a4.own a ha).trans (a3'.own a ha)).trans (a2.own a ha)) r4.m r4.tb
      refine ⟨s3, _, r3, h3, fun b k4 h4 H4 r4 a4 => ?_⟩
      have a4' : AdvE c (D :: s.X) H3 H4 := x3' ▸ a4
      have D4 : H4 D = some (.lst vs) := by rw [a4'.own D List.mem_cons_self, a3'.own D List.mem_cons_self, a2.own D List.mem_cons_self]; exact hD'
      have st4 : Sub (c.hid (D :: s.X) H') (c.hid (D :: s.X) H4) := (a2.sub.trans a3'.sub).trans a4'.sub
      have ow4 : ∀ a ∈ D :: s.X, H4 a = H' a := fun a ha => ((a4'.own a ha).trans (a3'.own a ha)).trans (a2.own a ha)
      cases b with
      | false =>
        have h4 : Inv (i + 1) acc k4 := h4
        exact iteF ⟨acc, vs, k4, h4, by omega, D4, back r4 a4', sb.trans st4, fun a ha => (ow4 a (List.mem_cons_of_mem _ ha)).trans (ow a ha), ra.mono st4⟩
      | true =>
        have h4 : te (s3.at k4) fun y k3 => Inv (i + 1) (acc ++ [y]) k3 := h4
        refine iteT ⟨s3.at k4, _, r4, h4, fun y k5 h5 v5 H5 r5 a5 e5 => ?_⟩
        have a5' : AdvE c (D :: s.X) H4 H5 := x3' ▸ a5
        have D5 : H5 D = some (.lst vs) := by rw [a5'.own D List.mem_cons_self]; exact D4
        have st5 : Sub (c.hid (D :: s.X) H') (c.hid (D :: s.X) H5) := st4.trans a5'.sub
        refine ⟨vs, D5, by rw [ra.len]; exact lim_lt (by omega), acc ++ [y], vs ++ [v5], k5, h5, by rw [List.length_append, List.length_singleton]; omega, upd_same, ?_, ?_, ?_, ?_⟩
        · have rr : Rep c (s.own D k5) σ H5 := back r5 ⟨a4'.sub.trans a5'.sub, fun a ha => (a5'.own a ha).trans (a4'.own a ha)⟩
          -- D's content is in no slot
          have no := fun i ds => rp.noslot n1 i ds
          refine ⟨rr.sub.trans (wo_mut (List.mem_append_right _ List.mem_cons_self)), fun a ha hm hn => ?_, rr.x0, rr.xm, fun a ha => ?_, rr.m.eq (fun a ha _ => upd_ne fun z => n2 (show D ∈ Ml c.M by rw [← z]; exact ha)) (.at_ D5), fun j x e => ?_, rr.apart, rr.len, rr.tb.trans (.at_ D5), fun a ha => by
            by_cases z : a = D
            · rw [z, upd_same]; exact fun _ e => by cases e
            · rw [upd_ne z]; exact rr.xt a ha⟩
          · rw [upd_ne fun z => n3 (show D ∈ c.X0 by rw [← z]; exact ha)]
            exact rr.old a ha hm hn
          · by_cases z : a = D
            · rw [z, upd_same]; simp
            · rw [upd_ne z]; exact rr.xs a ha
          · have q := rr.slot j x e
            have sm : Sub (c.hid (D :: s.X) H5) (c.hid (D :: s.X) (upd H5 D (.lst (vs ++ [v5])))) := wo_mut (List.mem_append_right _ List.mem_cons_self)
            cases x with
            | no => trivial
            | dat d =>
              obtain ⟨v, e, h⟩ := q
              exact ⟨v, e, h.mono sm⟩
            | own w ds =>
              obtain ⟨e', h1, h2, h3, ws, h4, h5⟩ := q
              have nw : w ≠ D := fun z => no j ds (z ▸ e)
              exact ⟨e', h1, h2, h3, ws, by rw [upd_ne nw]; exact h4, h5.mono sm⟩
            | mst => exact q
            | kds N Z => exact q
            | scr ns =>
              obtain ⟨v, e, h⟩ := q
              exact ⟨v, e, sm.sl h⟩
        · exact (sb.trans st5).trans (wo_mut (List.mem_append_right _ List.mem_cons_self))
        · intro a ha
          rw [upd_ne fun z => n1 (show D ∈ s.X by rw [← z]; exact ha), a5'.own a (List.mem_cons_of_mem _ ha), ow4 a (List.mem_cons_of_mem _ ha)]
          exact ow a ha
        · exact ((ra.mono st5).app (.cons (by rw [x3'] at e5; exact e5) .nil)).mono (wo_mut (List.mem_append_right _ List.mem_cons_self))
    · have e : i = items.length := by omega
      subst e
      exact .inl ⟨yl1 (Nat.le_refl _), f acc k (fin acc k hI hlen) D H' ⟨rp', a1.sub.trans sb, fun a ha => (ow a ha).trans (a1.own a ha), n1, n3, n4, vs, hD', ra⟩⟩
theorem pdf_lc {X : Cx} {c : C} {elt tg iter : Expr} {ifs : List Expr} {scope : Scope} {own : List (PySem.Str × Nat)} {pos : Pos} {wi : DI} {g : DG} {tt : DT} {te : DE} {ts : List Nat} (hc : X.calm = true) (hN : X.N.Nodup) (hi : PI X tg iter (LI c wi)) (ok : BlkOk X.N X.env.scope scope own)
    (hg : ∀ (s : Shared) (H : Hp) (C : Addr) (cl : List (PySem.Str × Addr)) (fp : List Addr), PG (X.blk s H scope (compEnvC scope cl C X.env) fp) tg (LG c ts g)) (ht : ∀ (s : Shared) (H : Hp) (C : Addr) (cl : List (PySem.Str × Addr)) (fp : List Addr), PTs (X.blk s H scope (compEnvC scope cl C X.env) fp) ifs (LT c tt))
    (he : ∀ (s : Shared) (H : Hp) (C : Addr) (cl : List (PySem.Str × Addr)) (fp : List Addr), PE (X.blk s H scope (compEnvC scope cl C X.env) fp) elt (LE c te)) (hts : ∀ j ∈ ts, j ∈ own.map (·.2) := by decide) (hs : ∀ x, foldedSetIterable iter X.env x = pure x := by intro _; rfl) :
    PE X (.ListComp elt [⟨tg, iter, ifs, 0⟩] scope pos) (LF c (dLc wi g tt te (own.map (·.2)))) :=
  (pe_lc hc hN hi ok hg ht he hs).weak fun σ H Q h => lc_imp hts σ H Q h
end DL
namespace DL
open PySem L2
open PySem.W (Frag)
structure DEnds where
  nx : S → Prop
  rt : D → Nat → Prop
  bk : S → Prop := fun _ => False
  ct : S → Prop := fun _ => False
abbrev DS := DEnds → S → Prop
def Adv' (c : C) (X : List Addr) (H : Hp) (X' : List Addr) (H' : Hp) : Prop := Sub (c.hid X H) (c.hid X' H')
structure Fin (c : C) (H' : Hp) (k : Nat) : Prop where
  sub : Sub (c.hid c.X0 c.H0) (c.hid c.X0 H')
  old : ∀ a ∈ c.X0, a ∉ Ml c.M → c.H0 a ≠ none → H' a = c.H0 a
  m : MAt c.M H' k
  tb : TbK c.H0 H'
structure Fits (c : C) (X : List Addr) (H : Hp) (DD : DEnds) (D : Ends) : Prop where
  nx : ∀ s' σ' H', Rep c s' σ' H' → Adv' c X H s'.X H' → DD.nx s' → D.nx σ' H'
  bk : ∀ s' σ' H', Rep c s' σ' H' → Adv' c X H s'.X H' → DD.bk s' → D.bk σ' H'
  ct : ∀ s' σ' H', Rep c s' σ' H' → Adv' c X H s'.X H' → DD.ct s' → D.ct σ' H'
  rt : ∀ d k v H', Fin c H' k → Rl c.K (c.hid c.X0 H') v d → DD.rt d k → D.rt v H'
def LS (c : C) (t : DS) : TS := fun D σ H => ∃ s DD, Rep c s σ H ∧ t DD s ∧ Fits c s.X H DD D
theorem Fits.on {c : C} {X X1 : List Addr} {H H1 : Hp} {DD : DEnds} {D : Ends} (f : Fits c X H DD D) (a : Adv' c X H X1 H1) : Fits c X1 H1 DD D :=
  ⟨fun s σ H' r b q => f.nx s σ H' r (a.trans b) q, fun s σ H' r b q => f.bk s σ H' r (a.trans b) q, fun s σ H' r b q => f.ct s σ H' r (a.trans b) q, f.rt⟩
theorem Rep.sub0 {c : C} {s : S} {σ : L2.St} {H : Hp} (r : Rep c s σ H) : Sub (c.hid s.X H) (c.hid c.X0 H) := wo_more fun a h => by
  rcases List.mem_append.mp h with h | h
  · exact List.mem_append_left _ h
  · exact List.mem_append_right _ (r.x0 a h)
theorem Rep.fin {c : C} {s : S} {σ : L2.St} {H : Hp} (r : Rep c s σ H) : Fin c H s.k := ⟨r.sub.trans r.sub0, r.old, r.m, r.tb⟩
abbrev dNext : DS := fun DD s => DD.nx s
abbrev dSeq (t u : DS) : DS := fun DD s => t { DD with nx := u DD } s
abbrev dSet (i : Nat) (t : DE) : DS := fun DD s => t s fun d k => DD.nx ((s.put i (.dat d)).at k)
abbrev dAsg (t : DE) (g : DG) : DS := fun DD s => t s fun d k => g d (s.at k) DD.nx
abbrev dSetO (i : Nat) (t : DA) : DS := fun DD s => t s fun ds k => ∀ p, p ∉ s.X → DD.nx ((s.own p k).put i (.own p ds))
@[reducible] def Sl.frz : Sl → Sl
  | .own _ ds => .dat (.lst ds)
  | x => x
abbrev dRet (t : DE) : DS := fun DD s => ∀ X, t ⟨X, s.sl.map Sl.frz, s.k⟩ fun d k => DD.rt d k
abbrev dIfS (c : DT) (t u : DS) : DS := fun DD s => c s fun b k => if b = true then t DD (s.at k) else u DD (s.at k)
abbrev dDrop (t : DE) : DS := fun DD s => t s fun _ k => DD.nx (s.at k)
abbrev dFor (it : DI) (g : DG) (body : DS) : DS := fun DD s => it s fun items k0 => ∃ Inv : Nat → S → Prop, Inv 0 (s.at k0) ∧
  (∀ i d s', items[i]? = some d → Inv i s' → g d s' fun s2 => body { DD with nx := Inv (i + 1), ct := Inv (i + 1), bk := DD.nx } s2) ∧ ∀ s', Inv items.length s' → DD.nx s'
abbrev dWhile (t : DT) (body : DS) : DS := fun DD s => ∃ Inv : Nat → S → Prop, (∃ m, Inv m s) ∧ ∀ m s', Inv m s' → t s' fun b k =>
  if b = true then body { DD with nx := fun s2 => ∃ m', m' < m ∧ Inv m' s2, ct := fun s2 => ∃ m', m' < m ∧ Inv m' s2, bk := DD.nx } (s'.at k) else DD.nx (s'.at k)
theorem Rep.frz {c : C} {s : S} {σ : L2.St} {H : Hp} (r : Rep c s σ H) : Rep c ⟨c.X0, s.sl.map Sl.frz, s.k⟩ σ H := by
  refine ⟨r.sub.trans r.sub0, r.old, fun a h => h, fun a h => r.xm a (r.x0 a h), fun a h => r.xs a (r.x0 a h), r.m, fun i x e => ?_, fun i j p q ds es e1 _ _ => ?_, by show (s.sl.map Sl.frz).length = _; rw [List.length_map]; exact r.len, r.tb, fun a h => r.xt a (r.x0 a h)⟩
  · have e : (s.sl.map Sl.frz)[i]? = some x := e
    rw [List.getElem?_map] at e
    cases h : s.sl[i]? with
    | none => rw [h] at e; cases e
    | some y =>
      rw [h] at e
      obtain rfl : Sl.frz y = x := Option.some.inj e
      have q := r.slot i y h
      cases y with
      | no => trivial
      | dat d =>
        obtain ⟨v, e, h⟩ := q
        exact ⟨v, e, h.mono r.sub0⟩
      | own p ds =>
        obtain ⟨e', h1, h2, h3, vs, h4, h5⟩ := q
        refine ⟨_, e', .lst (wo_of (fun z => ?_) h4) (h5.mono r.sub0)⟩
        rcases List.mem_append.mp z with z | z
        · exact r.xm p h1 z
        · exact h2 z
      | mst => exact q
      | kds N Z => exact q
      | scr ns =>
        obtain ⟨v, e, h⟩ := q
        exact ⟨v, e, r.sub0.sl h⟩
  · have e1 : (s.sl.map Sl.frz)[i]? = some (.own p ds) := e1
    rw [List.getElem?_map] at e1
    cases h : s.sl[i]? with
    | none => rw [h] at e1; cases e1
    | some y => rw [h] at e1; cases y <;> cases e1
section
variable {X : Cx} {c : C} {pos : Pos}
theorem psd_nil : PSs X [] (LS c dNext) := pss_nil.weak fun D σ H ⟨s, DD, rp, q, f⟩ => f.nx s σ H rp (Sub.refl _) q
theorem psd_cons {st : Stmt} {r : List Stmt} {t u : DS} (h1 : PS X st (LS c t)) (h2 : PSs X r (LS c u)) : PSs X (st :: r) (LS c (dSeq t u)) :=
  (pss_cons h1 h2).weak fun D σ H ⟨s, DD, rp, q, f⟩ => ⟨s, { DD with nx := u DD }, rp, q, ⟨fun s' σ' H' r' a q' => ⟨s', DD, r', q', f.on a⟩, f.bk, f.ct, f.rt⟩⟩
theorem psd_one {st : Stmt} {t : DS} (h1 : PS X st (LS c t)) : PSs X [st] (LS c t) := pss_one h1
theorem psd_never {st : Stmt} : PS X st (LS c (fun _ _ => False)) := ⟨fun _ _ _ _ _ _ ⟨_, _, _, q, _⟩ => q.elim⟩
theorem psd_set (i : Nat) {x : PySem.Str} {e : Expr} {t : DE} {pos' : Pos} (hN : X.N.Nodup) (he : PE X e (LE c t)) (hi : X.N[i]? = some x := by rfl) (hx : Loc X.env.scope x := by first | exact Or.inl rfl | exact Or.inr rfl) (hs : swapsWith e (some (.Name x pos')) pos.line X.env = pure false := by rfl) (hf : X.fn x = true ∨ X.env.scope.names.lookup x = some .local := by first | exact .inl rfl | exact .inr rfl) :
    PS X (.Assign [.Name x pos'] e pos) (LS c (dSet i t)) :=
  (ps_set hN hi hx he hs hf).weak fun D σ H ⟨s, DD, rp, q, f⟩ => ⟨s, _, rp, q, fun d k h v H1 r1 a1 e1 => f.nx _ _ H1 (r1.putD e1) a1.sub h⟩
theorem psd_asg {tg e : Expr} {t : DE} {g : DG} {ts : List Nat} (he : PE X e (LE c t)) (hg : PG X tg (LG c ts g)) (hs : swapsWithSole [tg] e pos.line X.env = pure false := by rfl) (hw : swappedStores [tg] e X.env = pure none := by rfl)
    (h1 : (assignEach [tg] X.env).map (·.2) = [assign tg X.env] := by rfl) : PS X (.Assign [tg] e pos) (LS c (dAsg t g)) :=
  (ps_asg he hg hs hw h1).weak fun D σ H ⟨s, DD, rp, q, f⟩ => ⟨s, _, rp, q, fun d k h v H1 r1 a1 e1 => ⟨s.at k, _, d, r1, e1, h, fun s2 q2 σ2 H2 r2 a2 x2 _ _ => f.nx s2 σ2 H2 r2 (a1.sub.trans (x2 ▸ a2.sub)) q2⟩⟩
theorem NewL.put {s : S} {σ : L2.St} {H : Hp} {p : Addr} {k : Nat} {ds : List D} {H' : Hp} (n : NewL c s σ H p k ds H') (rp : Rep c s σ H) (i : Nat) : Rep c ((s.own p k).put i (.own p ds)) (σ.set i (some (.ref p))) H' :=
  n.rep.put ⟨rfl, List.mem_cons_self, n.out0, n.new, n.vals⟩ fun q es e j q' es' e' _ => by
    cases e
    exact fun z => rp.noslot n.out j es' (z ▸ e')
theorem psd_setO (i : Nat) {x : PySem.Str} {e : Expr} {t : DA} {pos' : Pos} (how : c.ow.contains i = true) (hN : X.N.Nodup) (he : PE X e (LF c t)) (hi : X.N[i]? = some x := by rfl) (hx : Loc X.env.scope x := by first | exact Or.inl rfl | exact Or.inr rfl) (hs : swapsWith e (some (.Name x pos')) pos.line X.env = pure false := by rfl) (hf : X.fn x = true ∨ X.env.scope.names.lookup x = some .local := by first | exact .inl rfl | exact .inr rfl) :
    PS X (.Assign [.Name x pos'] e pos) (LS c (dSetO i t)) :=
  (ps_set hN hi hx he hs hf).weak fun D σ H ⟨s, DD, rp, q, f⟩ => ⟨s, _, rp, q, fun ds k h p H1 n => f.nx _ _ H1 (n.put rp i) n.sub (h p n.out)⟩
theorem psd_setLc (i : Nat) {y : PySem.Str} {py : Pos} {elt tg iter : Expr} {ifs : List Expr} {scope : Scope} {own : List (PySem.Str × Nat)} {wi : DI} {g : DG} {tt : DT} {te : DE} {ts : List Nat} {lpos spos : Pos} (hc : X.calm = true) (hN : X.N.Nodup) (hi : PI X tg iter (LI c wi)) (ok : BlkOk X.N X.env.scope scope own)
    (hg : ∀ (s : Shared) (H : Hp) (C : Addr) (cl : List (PySem.Str × Addr)) (fp : List Addr), PG (X.blk s H scope (compEnvC scope cl C X.env) fp) tg (LG c ts g)) (ht : ∀ (s : Shared) (H : Hp) (C : Addr) (cl : List (PySem.Str × Addr)) (fp : List Addr), PTs (X.blk s H scope (compEnvC scope cl C X.env) fp) ifs (LT c tt))
    (he : ∀ (s : Shared) (H : Hp) (C : Addr) (cl : List (PySem.Str × Addr)) (fp : List Addr), PE (X.blk s H scope (compEnvC scope cl C X.env) fp) elt (LE c te)) (hy : X.N[i]? = some y := by rfl) (hyl : X.env.scope.names.lookup y = some .local := by rfl)
    (hsw : swapsWith (.ListComp elt [⟨tg, iter, ifs, 0⟩] scope lpos) (some (.Name y py)) spos.line X.env = pure true := by exact sw_true rfl rfl rfl (by decide +kernel)) (hts : ∀ j ∈ ts, j ∈ own.map (·.2) := by decide) (hs : ∀ x, foldedSetIterable iter X.env x = pure x := by intro _; rfl) :
    PS X (.Assign [.Name y py] (.ListComp elt [⟨tg, iter, ifs, 0⟩] scope lpos) spos) (LS c (dSet i (dFr (dLc wi g tt te (own.map (·.2)))))) :=
  (ps_setLc hc hN hy hyl hsw hi ok hg ht he hs).weak fun D σ H ⟨s, DD, rp, q, f⟩ => lc_imp hts σ H _ (LF.data ⟨s, _, rp, q, fun d k h v H1 r1 a1 e1 => f.nx _ _ H1 (r1.putD e1) a1.sub h⟩)
theorem psd_setLcO (i : Nat) {y : PySem.Str} {py : Pos} {elt tg iter : Expr} {ifs : List Expr} {scope : Scope} {own : List (PySem.Str × Nat)} {wi : DI} {g : DG} {tt : DT} {te : DE} {ts : List Nat} {lpos spos : Pos} (hc : X.calm = true) (hN : X.N.Nodup) (hi : PI X tg iter (LI c wi)) (ok : BlkOk X.N X.env.scope scope own)
    (hg : ∀ (s : Shared) (H : Hp) (C : Addr) (cl : List (PySem.Str × Addr)) (fp : List Addr), PG (X.blk s H scope (compEnvC scope cl C X.env) fp) tg (LG c ts g)) (ht : ∀ (s : Shared) (H : Hp) (C : Addr) (cl : List (PySem.Str × Addr)) (fp : List Addr), PTs (X.blk s H scope (compEnvC scope cl C X.env) fp) ifs (LT c tt))
    (he : ∀ (s : Shared) (H : Hp) (C : Addr) (cl : List (PySem.Str × Addr)) (fp : List Addr), PE (X.blk s H scope (compEnvC scope cl C X.env) fp) elt (LE c te)) (hy : X.N[i]? = some y := by rfl) (hyl : X.env.scope.names.lookup y = some .local := by rfl)
    (hsw : swapsWith (.ListComp elt [⟨tg, iter, ifs, 0⟩] scope lpos) (some (.Name y py)) spos.line X.env = pure true := by exact sw_true rfl rfl rfl (by decide +kernel)) (hts : ∀ j ∈ ts, j ∈ own.map (·.2) := by decide) (hs : ∀ x, foldedSetIterable iter X.env x = pure x := by intro _; rfl) :
    PS X (.Assign [.Name y py] (.ListComp elt [⟨tg, iter, ifs, 0⟩] scope lpos) spos) (LS c (dSetO i (dLc wi g tt te (own.map (·.2))))) :=
  (ps_setLc hc hN hy hyl hsw hi ok hg ht he hs).weak fun D σ H ⟨s, DD, rp, q, f⟩ => lc_imp hts σ H _ ⟨s, _, rp, q, fun ds k h p H1 n => f.nx _ _ H1 (n.put rp i) n.sub (h p n.out)⟩
theorem psd_ret {e : Expr} {t : DE} (he : PE X e (LE c t)) : PS X (.Return (some e) pos) (LS c (dRet t)) :=
  (ps_ret he).weak fun D σ H ⟨s, DD, rp, q, f⟩ => ⟨_, _, rp.frz, q c.X0, fun d k h v H1 r1 a1 e1 => f.rt d k v H1 r1.fin e1 h⟩
theorem psd_if {t : Expr} {a b : List Stmt} {tt : DT} {ta tb : DS} (ht : PT X t (LT c tt)) (ha : PSs X a (LS c ta)) (hb : PSs X b (LS c tb)) : PS X (.If t a b pos) (LS c (dIfS tt ta tb)) :=
  (ps_if ht ha hb).weak fun D σ H ⟨s, DD, rp, q, f⟩ => ⟨s, _, rp, q, fun x k h H1 r1 a1 => by
    cases x with
    | true => exact ⟨s.at k, DD, r1, h, f.on a1.sub⟩
    | false => exact ⟨s.at k, DD, r1, h, f.on a1.sub⟩⟩
theorem psd_expr {e : Expr} {t : DE} (he : PE X e (LE c t)) (hs : swapsWith e none pos.line X.env = pure false := by rfl) : PS X (.Expr e pos) (LS c (dDrop t)) :=
  (ps_expr he hs).weak fun D σ H ⟨s, DD, rp, q, f⟩ => ⟨s, _, rp, q, fun d k h v H1 r1 a1 e1 => f.nx _ σ H1 r1 a1.sub h⟩
theorem psd_for {tg iter : Expr} {body : List Stmt} {it : DI} {g : DG} {tb : DS} {ts : List Nat} (hp : PassesOwn (model X.prog X.w) X.A X.env X.xe) (hc : X.calm = true) (hi : PI X tg iter (LI c it)) (hg : PG X tg (LG c ts g)) (hb : PSs X body (LS c tb))
    (hs : ∀ x, foldedSetIterable iter X.env x = pure x := by intro _; rfl) : PS X (.For tg iter body [] pos) (LS c (dFor it g tb)) :=
  (ps_for hp hc hi hg hb hs).weak fun D σ H ⟨s, DD, rp, q, f⟩ => by
    refine ⟨s, _, rp, q, fun items k0 ⟨IV, i0, turn, fin⟩ J H1 r1 a1 yl => ?_⟩
    refine ⟨fun i m σ' H' => m = items.length - i ∧ i ≤ items.length ∧ ∃ s', IV i s' ∧ Rep c s' σ' H' ∧ Adv' c s.X H1 s'.X H', ⟨items.length, by simp, Nat.zero_le _, s.at k0, i0, r1, Sub.refl _⟩, ?_⟩
    rintro i m σ' H' ⟨rfl, hi', s', hI, rp', ad⟩
    obtain ⟨yl1, yl2⟩ := yl i s' σ' H' rp' ad
    by_cases hlt : i < items.length
    · obtain ⟨d, hd⟩ : ∃ d, items[i]? = some d := ⟨items[i], by simp [hlt]⟩
      obtain ⟨go, yd⟩ := yl2 d hd
      refine .inr ⟨go, fun σ2 H2 => ∃ s', IV (i + 1) s' ∧ Rep c s' σ2 H2 ∧ Adv' c s.X H1 s'.X H2, fun σ2 H2 ⟨s2, h⟩ => ⟨items.length - (i + 1), by omega, rfl, hlt, s2, h⟩, fun x H2 hy => ?_⟩
      obtain ⟨r2, a2, e2⟩ := yd x H2 hy
      refine ⟨s', _, d, r2, e2, turn i d s' hd hI, fun s3 h3 σ3 H3 r3 a3 x3 _ _ => ?_⟩
      have ad3 : Adv' c s.X H1 s3.X H3 := (ad.trans a2.sub).trans (x3 ▸ a3.sub)
      exact ⟨s3, _, r3, h3, ⟨fun s4 σ4 H4 r4 a4 h4 => ⟨s4, h4, r4, ad3.trans a4⟩, fun s4 σ4 H4 r4 a4 h4 => f.nx s4 σ4 H4 r4 (a1.sub.trans (ad3.trans a4)) h4, fun s4 σ4 H4 r4 a4 h4 => ⟨s4, h4, r4, ad3.trans a4⟩, f.rt⟩⟩
    · have e : i = items.length := by omega
      subst e
      exact .inl ⟨yl1 (Nat.le_refl _), f.nx s' σ' H' rp' (a1.sub.trans ad) (fin s' hI)⟩
theorem psd_while {t : Expr} {body : List Stmt} {tt : DT} {tb : DS} (hp : PassesOwn (model X.prog X.w) X.A X.env X.xe) (ht : PT X t (LT c tt)) (hb : PSs X body (LS c tb)) : PS X (.While t body [] pos) (LS c (dWhile tt tb)) :=
  (ps_while hp ht hb).weak fun D σ H ⟨s, DD, rp, ⟨IV, ⟨m0, i0⟩, turn⟩, f⟩ => by
    refine ⟨fun m σ' H' => ∃ s', IV m s' ∧ Rep c s' σ' H' ∧ Adv' c s.X H s'.X H', ⟨m0, s, i0, rp, Sub.refl _⟩, ?_⟩
    rintro m σ' H' ⟨s', hI, rp', ad⟩
    refine ⟨s', _, rp', turn m s' hI, fun b k h H1 r1 a1 => ?_⟩
    have ad1 : Adv' c s.X H s'.X H1 := ad.trans a1.sub
    cases b with
    | true =>
      refine iteT ⟨fun σ2 H2 => ∃ m', m' < m ∧ ∃ s2, IV m' s2 ∧ Rep c s2 σ2 H2 ∧ Adv' c s.X H s2.X H2, fun σ2 H2 h => h, s'.at k, _, r1, h, ?_⟩
      exact ⟨fun s4 σ4 H4 r4 a4 ⟨m', hm, h4⟩ => ⟨m', hm, s4, h4, r4, ad1.trans a4⟩, fun s4 σ4 H4 r4 a4 h4 => f.nx s4 σ4 H4 r4 (ad1.trans a4) h4, fun s4 σ4 H4 r4 a4 ⟨m', hm, h4⟩ => ⟨m', hm, s4, h4, r4, ad1.trans a4⟩, f.rt⟩
    | false => exact iteF (f.nx (s'.at k) σ' H1 r1 ad1 h)
end
end DL
namespace DL
open PySem L2
open PySem.W (Frag)
@[reducible] def S.seq (s : S) (i : Nat) : Option (List D) := match s.sl[i]? with
  | some (.own _ ds) => some ds
  | some (.dat d) => d.items
  | _ => none
theorem Rep.seq {c : C} {s : S} {σ : L2.St} {H : Hp} {i : Nat} {ds : List D} (r : Rep c s σ H) (h : s.seq i = some ds) : ∃ a vs, σ[i]? = some (some (.ref a)) ∧ (SqL c.K H a vs ∨ SqT c.K H a vs) ∧ RlA c.K (c.hid s.X H) vs ds := by
  unfold S.seq at h
  cases e : s.sl[i]? with
  | none => rw [e] at h; cases h
  | some x =>
    rw [e] at h
    have q := r.slot i x e
    cases x with
    | no => cases h
    | mst => cases h
    | kds N Z => cases h
    | scr ns => cases h
    | dat d =>
      obtain ⟨v, e1, h1⟩ := q
      obtain ⟨a, vs, rfl, h2, h3⟩ := h1.items h
      exact ⟨a, vs, e1, sq_all (wo_sub _ _) h2, h3⟩
    | own p es =>
      cases h
      obtain ⟨e1, _, _, _, vs, h4, h5⟩ := q
      exact ⟨p, vs, e1, .inl (SqL.of h4), h5⟩
abbrev dLenN (i : Nat) : DE := fun s Q => ∃ ds, s.seq i = some ds ∧ Q (.int ds.length) s.k
abbrev dIxN (i : Nat) (t : DE) : DE := fun s Q => ∃ ds, s.seq i = some ds ∧ t s fun d k => ∃ j e, d = .int j ∧ atI ds j = some e ∧ Q e k
abbrev dTupN (i : Nat) : DE := fun s Q => ∃ ds, s.seq i = some ds ∧ Q (.tup ds) s.k
theorem S.seq_kind {c : C} {s : S} {σ : L2.St} {H : Hp} {i : Nat} {ds : List D} (r : Rep c s σ H) (h : s.seq i = some ds) : (∃ a vs, σ[i]? = some (some (.ref a)) ∧ H a = some (.lst vs) ∧ RlA c.K (c.hid s.X H) vs ds) ∨ ∃ v, σ[i]? = some (some v) ∧ Rl c.K (c.hid s.X H) v (.tup ds) := by
  unfold S.seq at h
  cases e : s.sl[i]? with
  | none => rw [e] at h; cases h
  | some x =>
    rw [e] at h
    have q := r.slot i x e
    cases x with
    | no => cases h
    | mst => cases h
    | kds N Z => cases h
    | scr ns => cases h
    | dat d =>
      obtain ⟨v, e1, h1⟩ := q
      cases d <;> first | cases h | skip
      · obtain ⟨a, vs, rfl, h2, h3⟩ := h1.lstE
        exact .inl ⟨a, vs, e1, wo_sub _ _ _ _ h2, h3⟩
      · exact .inr ⟨v, e1, h1⟩
    | own p es =>
      cases h
      obtain ⟨e1, _, _, _, vs, h4, h5⟩ := q
      exact .inl ⟨p, vs, e1, h4, h5⟩
abbrev dLstN (i : Nat) : DA := fun s Q => ∃ ds, s.seq i = some ds ∧ Q ds s.k
section
variable {X : Cx} {c : C} {pos p : Pos}
theorem pd_lenN (hK : c.K = X.K) (hm : X.mg "len" = none) (i : Nat) {x : PySem.Str} {pn : Pos} (hN : X.N[i]? = some x := by rfl) (hv : Vis X.env.scope x := by first | exact Or.inl rfl | exact Or.inr (Or.inl rfl) | exact Or.inr (Or.inr rfl)) (hd : (x == ("__debug__" : PySem.Str)) = false := by decide) (hcd : (x == ("__classdict__" : PySem.Str)) = false := by decide)
    (hg : Gl X "len" := by rfl) (hs : starEach [Expr.Name x pn] X.env = (false, eval (Expr.Name x pn) X.env) :: starEach [] X.env := by rfl) (hp : (backTo pos (starEach [] X.env)).any (·.1) = false := by rfl) :
    PE X (.Call (.Name "len" p) [.Name x pn] [] pos) (LE c (dLenN i)) :=
  (pe_callB call_len_seq hg hm PySem.boot_len (pa_cons (pe_var hN hv hd hcd) pa_nil hs) (he := hs) (hpl := hp)).weak fun σ H Q ⟨s, R, rp, ⟨ds, h1, h2⟩, f⟩ => by
    obtain ⟨a, vs, e, h, r⟩ := rp.seq h1
    exact ⟨_, e, a, vs, rfl, hK ▸ h, by rw [r.len]; exact f _ _ h2 _ H rp AdvE.refl (.int _)⟩
theorem pd_ixN (hK : c.K = X.K) (i : Nat) {x : PySem.Str} {pn : Pos} {b : Expr} {t : DE} (hb : PE X b (LE c t)) (hN : X.N[i]? = some x := by rfl) (hv : Vis X.env.scope x := by first | exact Or.inl rfl | exact Or.inr (Or.inl rfl) | exact Or.inr (Or.inr rfl)) (hd : (x == ("__debug__" : PySem.Str)) = false := by decide) (hcd : (x == ("__classdict__" : PySem.Str)) = false := by decide) (hs : PlainIx b := by exact fun _ _ => rfl) :
    PE X (.Subscript (.Name x pn) b pos) (LE c (dIxN i t)) :=
  (pe_ix ix_seq (pe_var hN hv hd hcd) hb hs).weak fun σ H Q ⟨s, R, rp, ⟨ds, h2, q⟩, f⟩ => by
    obtain ⟨a0, _, e1, _⟩ := rp.seq h2
    refine ⟨_, e1, s, _, rp, q, fun d' k ⟨j, e', h3, h4, h5⟩ w H1 r1 a1 e2 => ?_⟩
    obtain ⟨a, vs, e3, h6, r6⟩ := Rep.seq (s := s.at k) r1 h2
    rw [e1] at e3
    cases e3
    subst h3
    cases e2.intE
    obtain ⟨u, h7, h8⟩ := at_rl r6 h4
    rcases h6 with h6 | h6
    · exact .inl ⟨_, vs, j, u, rfl, rfl, hK ▸ h6, h7, f _ k h5 _ H1 r1 a1 h8⟩
    · exact .inr (.inl ⟨_, vs, j, u, rfl, rfl, hK ▸ h6, h7, f _ k h5 _ H1 r1 a1 h8⟩)
theorem pd_tupN (hK : c.K = X.K) (hm : X.mg "tuple" = none) (i : Nat) {x : PySem.Str} {pn : Pos} (hN : X.N[i]? = some x := by rfl) (hv : Vis X.env.scope x := by first | exact Or.inl rfl | exact Or.inr (Or.inl rfl) | exact Or.inr (Or.inr rfl)) (hd : (x == ("__debug__" : PySem.Str)) = false := by decide) (hcd : (x == ("__classdict__" : PySem.Str)) = false := by decide)
    (hg : Gl X "tuple" := by rfl) (hs : starEach [Expr.Name x pn] X.env = (false, eval (Expr.Name x pn) X.env) :: starEach [] X.env := by rfl) :
    PE X (.Call (.Name "tuple" p) [.Name x pn] [] pos) (LE c (dTupN i)) :=
  (pe_tupleOf hg hm (pe_var hN hv hd hcd) hs).weak fun σ H Q ⟨s, R, rp, ⟨ds, h1, h2⟩, f⟩ => by
    rcases S.seq_kind rp h1 with ⟨a, vs, e, h, r⟩ | ⟨v, e, h⟩
    · refine ⟨_, e, .inl ⟨a, vs, rfl, SqL.of h, fun q hq => ?_⟩⟩
      have n := rp.new (o := .tup vs) hq
      exact f _ _ h2 _ _ n.1 n.2 (.tup (SqT.of (rp.at_new hq)) (r.mono n.2.sub))
    · obtain ⟨a, vs, rfl, h3, r⟩ := h.tupE
      exact ⟨_, e, .inr ⟨a, vs, rfl, hK ▸ (wo_sub _ _).st h3, f _ _ h2 _ H rp AdvE.refl h⟩⟩
theorem pdf_lstN (hK : c.K = X.K) (hm : X.mg "list" = none) (i : Nat) {x : PySem.Str} {pn : Pos} (hN : X.N[i]? = some x := by rfl) (hv : Vis X.env.scope x := by first | exact Or.inl rfl | exact Or.inr (Or.inl rfl) | exact Or.inr (Or.inr rfl)) (hd : (x == ("__debug__" : PySem.Str)) = false := by decide) (hcd : (x == ("__classdict__" : PySem.Str)) = false := by decide)
    (hg : Gl X "list" := by rfl) (hs : starEach [Expr.Name x pn] X.env = (false, eval (Expr.Name x pn) X.env) :: starEach [] X.env := by rfl) (hp : (backTo pos (starEach [] X.env)).any (·.1) = false := by rfl) :
    PE X (.Call (.Name "list" p) [.Name x pn] [] pos) (LF c (dLstN i)) :=
  (pe_callTy call_list_of hg hm PyProof.Rows.boot_list (pa_cons (pe_var hN hv hd hcd) pa_nil hs) (he := hs) (hpl := hp)).weak fun σ H Q ⟨s, R, rp, ⟨ds, h1, h2⟩, f⟩ => by
    obtain ⟨a, vs, e, h, r⟩ := rp.seq h1
    exact ⟨_, e, a, vs, rfl, hK ▸ h, fun q hq => f ds _ h2 q _ (NewL.mk' rp AdvE.refl r hq)⟩
end
end DL
namespace DL
open PySem L2
open PySem.W (Frag)
abbrev dLen (t : DE) : DE := fun s Q => t s fun d k => ∃ ds, d.items = some ds ∧ Q (.int ds.length) k
abbrev dTupOf (t : DE) : DE := fun s Q => t s fun d k => ∃ ds, d.items = some ds ∧ Q (.tup ds) k
abbrev dInt (t : DE) : DE := fun s Q => t s fun d k => ∃ i, d = .int i ∧ Q (.int i) k
abbrev dLr1 (t : DE) : DA := fun s Q => t s fun d k => ∃ j, d = .int j ∧ -(2 ^ 62) ≤ j ∧ j ≤ 1000 ∧ Q (rngD 0 j.toNat) k
abbrev dLr2 (t u : DE) : DA := fun s Q => t s fun d k => u (s.at k) fun e k' => ∃ i j, d = .int i ∧ e = .int j ∧ (-1000 ≤ i ∧ i ≤ 1000 ∧ -1000 ≤ j ∧ j ≤ 1000) ∧ Q (rngD i (j - i).toNat) k'
theorem rng_rl {K : Frag} {A : Hp} (a b : Int) : RlA K A (rgV a b) (rngD a (b - a).toNat) := by
  unfold rgV rngD
  generalize (List.range (b - a).toNat) = l
  induction l with
  | nil => exact .nil
  | cons i r ih => exact .cons (.int _) ih
section
variable {X : Cx} {c : C} {pos p : Pos}
theorem pd_len (hK : c.K = X.K) (hm : X.mg "len" = none) {e : Expr} {t : DE} (h : PE X e (LE c t)) (hg : Gl X "len" := by rfl) (hs : starEach [e] X.env = (false, eval e X.env) :: starEach [] X.env := by rfl) (hp : (backTo pos (starEach [] X.env)).any (·.1) = false := by rfl) :
    PE X (.Call (.Name "len" p) [e] [] pos) (LE c (dLen t)) :=
  (pe_callB call_len_seq hg hm PySem.boot_len (pa_cons h pa_nil hs) (he := hs) (hpl := hp)).weak fun σ H Q ⟨s, R, rp, q, f⟩ => ⟨s, _, rp, q, fun d k ⟨ds, h1, h2⟩ v H1 r1 a1 e1 => by
    obtain ⟨a, vs, rfl, h, r⟩ := e1.items h1
    exact ⟨a, vs, rfl, hK ▸ sq_all (wo_sub _ _) h, by rw [r.len]; exact f _ k h2 _ H1 r1 a1 (.int _)⟩⟩
theorem pd_tupOf (hK : c.K = X.K) (hm : X.mg "tuple" = none) {e : Expr} {t : DE} (h : PE X e (LE c t)) (hg : Gl X "tuple" := by rfl) (hs : starEach [e] X.env = (false, eval e X.env) :: starEach [] X.env := by rfl) :
    PE X (.Call (.Name "tuple" p) [e] [] pos) (LE c (dTupOf t)) :=
  (pe_tupleOf hg hm h hs).weak fun σ H Q ⟨s, R, rp, q, f⟩ => ⟨s, _, rp, q, fun d k ⟨ds, h1, h2⟩ v H1 r1 a1 e1 => by
    cases d <;> first | cases h1 | skip
    · obtain ⟨a, vs, rfl, h, r⟩ := e1.lstE
      refine .inl ⟨a, vs, rfl, SqL.of (wo_sub _ _ _ _ h), fun q hq => ?_⟩
      have n := r1.new (o := .tup vs) hq
      exact f _ _ h2 _ _ n.1 (a1.trans n.2) (.tup (SqT.of (r1.at_new hq)) (r.mono n.2.sub))
    · obtain ⟨a, vs, rfl, h, r⟩ := e1.tupE
      exact .inr ⟨a, vs, rfl, hK ▸ (wo_sub _ _).st h, f _ _ h2 _ H1 r1 a1 e1⟩⟩
theorem pd_int1 (hm : X.mg "int" = none) {e : Expr} {t : DE} (h : PE X e (LE c t)) (hg : Gl X "int" := by rfl) (hs : starEach [e] X.env = (false, eval e X.env) :: starEach [] X.env := by rfl) (hp : (backTo pos (starEach [] X.env)).any (·.1) = false := by rfl) :
    PE X (.Call (.Name "int" p) [e] [] pos) (LE c (dInt t)) :=
  (pe_callTy call_int1 hg hm PyProof.Rows.boot_int (pa_cons h pa_nil hs) (he := hs) (hpl := hp)).weak fun σ H Q ⟨s, R, rp, q, f⟩ => ⟨s, _, rp, q, fun d k ⟨i, h1, h2⟩ v H1 r1 a1 e1 => by
    subst h1
    exact .inl ⟨i, by rw [e1.intE], f _ k h2 _ H1 r1 a1 (.int _)⟩⟩
theorem pdf_lr1 (hc : X.calm = true) (hm : X.mg "list" = none) (hr : X.mg "range" = none) {e : Expr} {t : DE} {p2 pos2 : Pos} (h : PE X e (LE c t)) (hg : Gl X "list" := by rfl) (hg2 : Gl X "range" := by rfl) (hs : starEach [e] X.env = (false, eval e X.env) :: starEach [] X.env := by rfl)
    (na : starEach [Expr.Call (.Name "range" p2) [e] [] pos2] X.env = (false, eval (Expr.Call (.Name "range" p2) [e] [] pos2) X.env) :: starEach [] X.env := by rfl) : PE X (.Call (.Name "list" p) [.Call (.Name "range" p2) [e] [] pos2] [] pos) (LF c (dLr1 t)) :=
  (pe_listRg hc hg hm (prg_1 hg2 hr h hs) na).weak fun σ H Q ⟨s, R, rp, q, f⟩ => ⟨s, _, rp, q, fun d k ⟨j, h1, h2, h3, h4⟩ v H1 r1 a1 e1 => by
    subst h1
    refine ⟨j, e1.intE, ⟨by decide, by decide, h2, by omega, by omega⟩, fun q hq => f _ k h4 q _ (NewL.mk' r1 a1 (by have := @rng_rl c.K (c.hid s.X H1) 0 j; rwa [Int.sub_zero] at this) hq)⟩⟩
theorem pdf_lr2 (hc : X.calm = true) (hm : X.mg "list" = none) (hr : X.mg "range" = none) {e e' : Expr} {t u : DE} {p2 pos2 : Pos} (h : PE X e (LE c t)) (h' : PE X e' (LE c u)) (hg : Gl X "list" := by rfl) (hg2 : Gl X "range" := by rfl) (hs : starEach [e, e'] X.env = (false, eval e X.env) :: starEach [e'] X.env := by rfl) (hs2 : starEach [e'] X.env = (false, eval e' X.env) :: starEach [] X.env := by rfl)
    (hp : (backTo pos2 (starEach [e'] X.env)).any (·.1) = false := by rfl) (na : starEach [Expr.Call (.Name "range" p2) [e, e'] [] pos2] X.env = (false, eval (Expr.Call (.Name "range" p2) [e, e'] [] pos2) X.env) :: starEach [] X.env := by rfl) : PE X (.Call (.Name "list" p) [.Call (.Name "range" p2) [e, e'] [] pos2] [] pos) (LF c (dLr2 t u)) :=
  (pe_listRg hc hg hm (prg_2 hg2 hr h h' hs hs2 hp) na).weak fun σ H Q ⟨s, R, rp, q, f⟩ => ⟨s, _, rp, q, fun d k hd v H1 r1 a1 e1 => ⟨s.at k, _, r1, hd, fun d2 k2 ⟨i, j, h1, h2, ⟨b1, b2, b3, b4⟩, h4⟩ v2 H2 r2 a2 e2 => by
    subst h1 h2
    refine ⟨i, j, e1.intE, e2.intE, ⟨by omega, by omega, by omega, by omega, by omega⟩, fun q hq => f _ k2 h4 q _ (NewL.mk' r2 (a1.trans a2) (rng_rl i j) hq)⟩⟩⟩
end
end DL
namespace DL
open PySem L2
open PySem.W (Frag)
abbrev dApp (i : Nat) (t : DE) : DS := fun DD s => ∃ p ds, s.sl[i]? = some (.own p ds) ∧ t s fun d k => ds.length < lim ∧ DD.nx ((s.put i (.own p (ds ++ [d]))).at k)
abbrev dSix (i : Nat) (t u : DE) : DS := fun DD s => ∃ p ds, s.sl[i]? = some (.own p ds) ∧ u s fun d k => t (s.at k) fun j k' => ∃ z n, j = .int z ∧ ixN ds.length z = some n ∧ DD.nx ((s.put i (.own p (ds.set n d))).at k')
theorem Rep.mut {c : C} {s : S} {σ : L2.St} {H : Hp} {i : Nat} {p : Addr} {ds es : List D} {vs : List V} (r : Rep c s σ H) (h : s.sl[i]? = some (.own p ds)) (e : RlA c.K (c.hid s.X H) vs es) : Rep c (s.put i (.own p es)) σ (upd H p (.lst vs)) ∧ Sub (c.hid s.X H) (c.hid s.X (upd H p (.lst vs))) := by
  obtain ⟨e1, h1, h2, h3, ws, h4, h5⟩ := r.slot i _ h
  have sm : Sub (c.hid s.X H) (c.hid s.X (upd H p (.lst vs))) := wo_mut (List.mem_append_right _ h1)
  refine ⟨⟨r.sub.trans sm, fun a ha hm hn => ?_, r.x0, r.xm, fun a ha => ?_, r.m.eq (fun a ha _ => upd_ne fun z => r.xm p h1 (by rw [← z]; exact ha)) (.at_ h4), fun j x q => ?_, fun j k q w as bs q1 q2 ne => ?_, by rw [List.length_set]; exact r.len, r.tb.trans (.at_ h4), fun a ha => by
      by_cases z : a = p
      · rw [z, upd_same]; exact fun _ e => by cases e
      · rw [upd_ne z]; exact r.xt a ha⟩, sm⟩
  · rw [upd_ne fun z => h2 (by rw [← z]; exact ha)]
    exact r.old a ha hm hn
  · by_cases z : a = p
    · rw [z, upd_same]; simp
    · rw [upd_ne z]; exact r.xs a ha
  · rcases get_set_cases q with ⟨rfl, rfl, hl⟩ | ⟨ne, q⟩
    · exact ⟨e1, h1, h2, h3, vs, upd_same, e.mono sm⟩
    · have o := r.slot j x q
      cases x with
      | no => trivial
      | dat d =>
        obtain ⟨v, e, h⟩ := o
        exact ⟨v, e, h.mono sm⟩
      | own w as =>
        obtain ⟨q1, q2, q3, q4, us, q5, q6⟩ := o
        have nw : w ≠ p := r.apart j i w p as ds q h (fun z => ne z.symm)
        exact ⟨q1, q2, q3, q4, us, by rw [upd_ne nw]; exact q5, q6.mono sm⟩
      | mst => exact o
      | kds N Z => exact o
      | scr ns =>
        obtain ⟨v, e, h⟩ := o
        exact ⟨v, e, sm.sl h⟩
  · rcases get_set_cases q1 with ⟨rfl, q1, _⟩ | ⟨n1, q1⟩
    · cases q1
      rcases get_set_cases q2 with ⟨rfl, _, _⟩ | ⟨n2, q2⟩
      · exact absurd rfl ne
      · exact r.apart _ k _ w ds bs h q2 ne
    · rcases get_set_cases q2 with ⟨rfl, q2, _⟩ | ⟨n2, q2⟩
      · cases q2
        exact r.apart j _ q _ as ds q1 h ne
      · exact r.apart j k q w as bs q1 q2 ne
section
variable {X : Cx} {c : C} {pos : Pos}
theorem psd_app (i : Nat) {x : PySem.Str} {pn apos cpos : Pos} {e : Expr} {t : DE} (he : PE X e (LE c t)) (hN : X.N[i]? = some x := by rfl) (hv : Vis X.env.scope x := by first | exact Or.inl rfl | exact Or.inr (Or.inl rfl) | exact Or.inr (Or.inr rfl)) (hd : (x == ("__debug__" : PySem.Str)) = false := by decide) (hcd : (x == ("__classdict__" : PySem.Str)) = false := by decide)
    (hbase : attributeBase (Expr.Name x pn) "append" X.env (eval (Expr.Name x pn) X.env) = eval (Expr.Name x pn) X.env := by rfl)
    (hfew : ((backTo cpos (starEach (e :: []) X.env)).all (fun x => !x.1) && (backToKw cpos (keywordEach [] X.env)).all (fun x => x.1.isSome) && decide ((e :: []).length + ([] : List Keyword).length + (if ([] : List Keyword).isEmpty then 0 else 1) < 30)) = true := by rfl)
    (hline : (apos.endLine == cpos.line) = true := by rfl) (hs : starEach (e :: []) X.env = (false, eval e X.env) :: starEach [] X.env := by rfl) (hplain : (backTo cpos (starEach [] X.env)).any (·.1) = false := by rfl)
    (hsw : swapsWith (.Call (.Attribute (.Name x pn) "append" apos) [e] [] cpos) none pos.line X.env = pure false := by rfl) :
    PS X (.Expr (.Call (.Attribute (.Name x pn) "append" apos) [e] [] cpos) pos) (LS c (dApp i t)) :=
  (ps_expr (pe_bm PySem.F.plainAttrs_list PySem.F.slot_list_append PySem.F.type_list_append mt_append (pe_var hN hv hd hcd) (pa_cons he pa_nil hs) hbase hfew hline hs hplain) hsw).weak fun D σ H ⟨s, DD, rp, ⟨p, ds, h, q⟩, f⟩ => by
    obtain ⟨e1, h1, h2, h3, vs, h4, h5⟩ := rp.slot i _ h
    refine ⟨_, e1, .inl ⟨rfl, _, SqL.of h4⟩, s, _, rp, q, fun d k ⟨hl, hR⟩ v H1 r1 a1 e2 => ?_⟩
    have h6 : H1 p = some (.lst vs) := by rw [a1.own p h1]; exact h4
    refine ⟨p, vs, v, rfl, rfl, h6, by rw [h5.len]; exact lim_lt (Nat.le_of_lt hl), ?_⟩
    have m := Rep.mut (s := s.at k) r1 h ((h5.mono a1.sub).app (.cons e2 .nil))
    exact f.nx _ σ _ m.1 (a1.sub.trans m.2) hR
theorem psd_six (i : Nat) {x : PySem.Str} {pn p2 : Pos} {e1 e2 : Expr} {t u : DE} (h1 : PE X e1 (LE c t)) (h2 : PE X e2 (LE c u)) (hN : X.N[i]? = some x := by rfl) (hv : Vis X.env.scope x := by first | exact Or.inl rfl | exact Or.inr (Or.inl rfl) | exact Or.inr (Or.inr rfl)) (hd : (x == ("__debug__" : PySem.Str)) = false := by decide) (hcd : (x == ("__classdict__" : PySem.Str)) = false := by decide)
    (ha : ∀ v, assign (.Subscript (.Name x pn) e1 p2) X.env v = (do
      let ov ← holding [v] (eval (.Name x pn) X.env)
      let iv ← holding [v, ov] (eval e1 X.env)
      standAt p2
      holding [v, ov, iv] (setItem ov iv v)
      release [v, ov, iv] []) := by intro _; rfl)
    (hs : swapsWithSole [.Subscript (.Name x pn) e1 p2] e2 pos.line X.env = pure false := by rfl) (hw : swappedStores [.Subscript (.Name x pn) e1 p2] e2 X.env = pure none := by rfl)
    (hA : (assignEach [.Subscript (.Name x pn) e1 p2] X.env).map (·.2) = [assign (.Subscript (.Name x pn) e1 p2) X.env] := by rfl) :
    PS X (.Assign [.Subscript (.Name x pn) e1 p2] e2 pos) (LS c (dSix i t u)) :=
  (ps_asg h2 (pg_sub (pe_var hN hv hd hcd) h1 set_list ha) hs hw hA).weak fun D σ H ⟨s, DD, rp, ⟨p, ds, h, q⟩, f⟩ => by
    obtain ⟨g1, g2, g3, g4, vs, g5, g6⟩ := rp.slot i _ h
    refine ⟨s, _, rp, q, fun d k hd v H1 r1 a1 e3 => ⟨_, g1, s.at k, _, r1, hd, fun j k2 ⟨z, n, hj, hz, hR⟩ w H2 r2 a2 e4 => ?_⟩⟩
    subst hj
    have h6 : H2 p = some (.lst vs) := by rw [a2.own p g2, a1.own p g2]; exact g5
    refine ⟨p, vs, z, n, rfl, e4.intE, h6, by rw [g6.len]; exact hz, ?_⟩
    have m := Rep.mut (s := s.at k2) r2 h (RlA.set (e3.mono a2.sub) n ((g6.mono a1.sub).mono a2.sub))
    exact f.nx _ σ _ m.1 ((a1.sub.trans a2.sub).trans m.2) hR
end
inductive Vx where
  | dat (d : D) | own (p : Addr) (ds : List D)
abbrev DX := S → (List Vx → S → Prop) → Prop
def VxOk (c : C) (X : List Addr) (H : Hp) (v : V) : Vx → Prop
  | .dat d => Rl c.K (c.hid X H) v d
  | .own p ds => v = .ref p ∧ p ∈ X ∧ p ∉ c.X0 ∧ c.H0 p = none ∧ ∃ vs, H p = some (.lst vs) ∧ RlA c.K (c.hid X H) vs ds
@[reducible] def Vx.sl : Vx → Sl
  | .dat d => .dat d
  | .own p ds => .own p ds
def VxAp (sl : List Sl) : List Vx → Prop
  | [] => True
  | x :: r => (∀ p ds, x = .own p ds → (∀ (i : Nat) es, sl[i]? ≠ some (.own p es)) ∧ ∀ q es, Vx.own q es ∈ r → p ≠ q) ∧ VxAp sl r
inductive VxA (c : C) (X : List Addr) (H : Hp) : List V → List Vx → Prop
  | nil : VxA c X H [] []
  | cons {v : V} {vs : List V} {x : Vx} {xs : List Vx} : VxOk c X H v x → VxA c X H vs xs → VxA c X H (v :: vs) (x :: xs)
def LX (c : C) (t : DX) : TA := fun σ H Q => ∃ s R, Rep c s σ H ∧ t s R ∧ ∀ xs s', R xs s' → ∀ vs H', Rep c s' σ H' → Sub (c.hid s.X H) (c.hid s'.X H') → (∀ a ∈ s.X, H' a = H a) → (∀ a ∈ s.X, a ∈ s'.X) → s'.sl = s.sl → VxA c s'.X H' vs xs → (∀ p ds, Vx.own p ds ∈ xs → p ∉ s.X) → VxAp s.sl xs → Q vs H'
abbrev dxN : DX := fun s Q => Q [] s
abbrev dxD (t : DE) (u : DX) : DX := fun s Q => t s fun d k => u (s.at k) fun xs s' => Q (.dat d :: xs) s'
abbrev dxO (t : DA) (u : DX) : DX := fun s Q => t s fun ds k => ∀ p, p ∉ s.X → u (s.own p k) fun xs s' => Q (.own p ds :: xs) s'
section
variable {X : Cx} {c : C}
theorem pax_nil : PA X [] (LX c dxN) := pa_nil.weak fun σ H Q ⟨s, R, rp, q, f⟩ => f [] s q [] H rp (Sub.refl _) (fun _ _ => rfl) (fun _ h => h) rfl .nil (fun _ _ h => nomatch h) trivial
theorem pax_dat {e : Expr} {es : List Expr} {t : DE} {u : DX} (ha : PE X e (LE c t)) (hr : PA X es (LX c u)) (hs : starEach (e :: es) X.env = (false, eval e X.env) :: starEach es X.env := by rfl) : PA X (e :: es) (LX c (dxD t u)) :=
  (pa_cons ha hr hs).weak fun σ H Q ⟨s, R, rp, q, f⟩ => ⟨s, _, rp, q, fun d k hd v H1 r1 a1 e1 => ⟨s.at k, _, r1, hd, fun xs s' hx vs H2 r2 sb ow xx sl vx out ap => by
    refine f (.dat d :: xs) s' hx (v :: vs) H2 r2 (a1.sub.trans sb) (fun a h => (ow a h).trans (a1.own a h)) xx sl (.cons (e1.mono sb) vx) (fun p ds h => ?_) ⟨fun p ds h => (nomatch h), ap⟩
    rcases List.mem_cons.mp h with h | h
    · cases h
    · exact out p ds h⟩⟩
theorem pax_own {e : Expr} {es : List Expr} {t : DA} {u : DX} (ha : PE X e (LF c t)) (hr : PA X es (LX c u)) (hs : starEach (e :: es) X.env = (false, eval e X.env) :: starEach es X.env := by rfl) : PA X (e :: es) (LX c (dxO t u)) :=
  (pa_cons ha hr hs).weak fun σ H Q ⟨s, R, rp, q, f⟩ => ⟨s, _, rp, q, fun ds k hd p H1 n => ⟨s.own p k, _, n.rep, hd p n.out, fun xs s' hx vs H2 r2 sb ow xx sl vx out ap => by
    refine f (.own p ds :: xs) s' hx (.ref p :: vs) H2 r2 (n.sub.trans sb) (fun a h => (ow a (List.mem_cons_of_mem _ h)).trans (n.own a h)) (fun a h => xx a (List.mem_cons_of_mem _ h)) sl (.cons ?_ vx) (fun q es h => ?_) ⟨fun q es h => ?_, ap⟩
    · obtain ⟨ws, h1, h2⟩ := n.vals
      exact ⟨rfl, xx p List.mem_cons_self, n.out0, n.new, ws, by rw [ow p List.mem_cons_self]; exact h1, h2.mono sb⟩
    · rcases List.mem_cons.mp h with h | h
      · cases h
        exact n.out
      · exact fun z => out q es h (List.mem_cons_of_mem _ z)
    · cases h
      exact ⟨fun i es' => rp.noslot n.out i es', fun q es' h z => out q es' h (by rw [← z]; exact List.mem_cons_self)⟩⟩⟩
theorem VxOk.slot {H : Hp} {X : List Addr} {v : V} {x : Vx} (h : VxOk c X H v x) : SlOk c X H (some (some v)) x.sl := by
  cases x with
  | dat d => exact ⟨v, rfl, h⟩
  | own p ds =>
    obtain ⟨rfl, h⟩ := h
    exact ⟨rfl, h⟩
abbrev dPar2 (i j : Nat) (t : DX) : DS := fun DD s => t s fun xs s' => match xs with | [x, y] => DD.nx ((s'.put i x.sl).put j y.sl) | _ => False
theorem put_no {s : S} {i : Nat} {x : Vx} {p : Addr} {es : List D} {j : Nat} (h : ∀ (i : Nat) es, s.sl[i]? ≠ some (.own p es)) (hx : ∀ ds, x ≠ .own p ds) : (s.put i x.sl).sl[j]? ≠ some (.own p es) := fun e => by
  rcases get_set_cases e with ⟨_, e, _⟩ | ⟨_, e⟩
  · cases x with
    | dat d => cases e
    | own q ds => cases e; exact hx es rfl
  · exact h j es e
theorem VxOk.mono {H H' : Hp} {X : List Addr} {v : V} {x : Vx} (sb : Sub (c.hid X H) (c.hid X H')) (ow : ∀ a ∈ X, H' a = H a) (h : VxOk c X H v x) : VxOk c X H' v x := by
  cases x with
  | dat d => exact Rl.mono sb h
  | own p ds =>
    obtain ⟨h1, h2, h3, h4, vs, h5, h6⟩ := h
    exact ⟨h1, h2, h3, h4, vs, by rw [ow p h2]; exact h5, h6.mono sb⟩
theorem psd_tar2 (hK : c.K = X.K) (i j : Nat) {x y : PySem.Str} {a b : Expr} {t : DX} {px py pt pos : Pos} {kt k2 pt2} (hc : X.calm = true) (hN : X.N.Nodup) (ha : PA X [a, b] (LX c t)) (hij : i ≠ j := by decide) (hi : X.N[i]? = some x := by rfl) (hj : X.N[j]? = some y := by rfl)
    (hx : Loc X.env.scope x := by first | exact Or.inl rfl | exact Or.inr rfl) (hy : Loc X.env.scope y := by first | exact Or.inl rfl | exact Or.inr rfl)
    (fx : X.fn x = true ∨ X.env.scope.names.lookup x = some .local := by first | exact .inl rfl | exact .inr rfl) (fy : X.fn y = true ∨ X.env.scope.names.lookup y = some .local := by first | exact .inl rfl | exact .inr rfl)
    (h1 : (assignEach [.Name x px, .Name y py] X.env).map (·.2) = assign (.Name x px) X.env :: (assignEach [.Name y py] X.env).map (·.2) := by rfl) (h2 : (assignEach [.Name y py] X.env).map (·.2) = assign (.Name y py) X.env :: (assignEach [] X.env).map (·.2) := by rfl)
    (hn : (assignEach [.Name x px, .Name y py] X.env).length = 2 := by rfl) (hst : (assignEach [.Name x px, .Name y py] X.env).findIdx? (·.1) = none := by rfl)
    (hs : swapsWithSole [.Tuple [.Name x px, .Name y py] kt pt] (.Tuple [a, b] k2 pt2) pos.line X.env = pure false := by rfl) (hw : swappedStores [.Tuple [.Name x px, .Name y py] kt pt] (.Tuple [a, b] k2 pt2) X.env = pure none := by rfl)
    (hA : (assignEach [.Tuple [.Name x px, .Name y py] kt pt] X.env).map (·.2) = [assign (.Tuple [.Name x px, .Name y py] kt pt) X.env] := by rfl) :
    PS X (.Assign [.Tuple [.Name x px, .Name y py] kt pt] (.Tuple [a, b] k2 pt2) pos) (LS c (dPar2 i j t)) :=
  (ps_asg (pe_tup ha) (pg_tup hc (pgs_cons (pg_name hN hi hx fx) (pgs_cons (pg_name hN hj hy fy) pgs_nil h2) h1) hn hst) hs hw hA).weak fun D σ H ⟨s, DD, rp, q, f⟩ => ⟨s, _, rp, q, fun xs s' h vs H1 r1 sb ow xx sl vx out ap => by
    cases vx with
    | nil => exact h.elim
    | @cons w1 _ x1 _ v1 vx =>
      cases vx with
      | nil => exact h.elim
      | @cons w2 _ x2 _ v2 vx =>
        cases vx with
        | cons _ _ => exact h.elim
        | nil =>
          obtain ⟨ap1, ap2, _⟩ := ap
          refine ⟨by show 2 ≤ sizeLine; decide, fun p hp => ⟨p, _, rfl, SqT.of upd_same, rfl, _, _, rfl, _, _, rfl, rfl, ?_⟩⟩
          have n := r1.new (o := .tup [w1, w2]) hp
          refine f.nx _ _ _ ((n.1.put (v1.mono n.2.sub n.2.own).slot fun p ds e j q es e' _ z => ?_).put (v2.mono n.2.sub n.2.own).slot fun p ds e j q es e' _ z => ?_) (sb.trans n.2.sub) h
          · cases x1 with
            | dat d => cases e
            | own p1 ds1 =>
              cases e
              rw [sl] at e'
              exact (ap1 _ _ rfl).1 j es (z ▸ e')
          · cases x2 with
            | dat d => cases e
            | own p1 ds1 =>
              cases e
              refine put_no (s := s') (x := x1) (p := p) (fun i es => ?_) (fun es' e1 => ?_) (z ▸ e')
              · rw [sl]; exact (ap2 _ _ rfl).1 i es
              · subst e1
                exact (ap1 _ _ rfl).2 _ _ List.mem_cons_self rfl⟩
end
end DL
namespace DL
open PySem L2
open PySem.W (Frag)
abbrev DSp := List D → Nat → (D → Nat → Prop) → Prop
structure Aft (K : Frag) (M : Option Mc) (X0 : List Addr) (H H' : Hp) (k : Nat) : Prop where
  sub : Sub (wo H (Ml M ++ X0)) (wo H' (Ml M ++ X0))
  old : ∀ a ∈ X0, H' a = H a
  m : MAt M H' k
  tb : TbK H H'
structure Ahd (K : Frag) (M : Option Mc) (X0 : List Addr) (H : Hp) (k : Nat) (ws : List V) (ds : List D) : Prop where
  xm : ∀ a ∈ X0, a ∉ Ml M
  xs : ∀ a ∈ X0, H a ≠ none
  m : MAt M H k
  args : RlA K (wo H (Ml M ++ X0)) ws ds
  xt : ∀ a ∈ X0, ∀ ps, H a ≠ some (.tbl ps)
def spD (K : Frag) (hm : Bool) (sp : DSp) : Sp := fun vs H Q _ => ∃ (M : Option Mc) (X0 : List Addr) (k : Nat) (ds : List D) (ws : List V) (R : D → Nat → Prop),
  (match hm with | true => ∃ m, (M = some m ∧ m.kd = none) ∧ vs = .ref m.pm :: ws | false => M = none ∧ vs = ws) ∧ Ahd K M X0 H k ws ds ∧ sp ds k R ∧
  ∀ d k', R d k' → ∀ v H', Aft K M X0 H H' k' → Rl K (wo H' (Ml M ++ X0)) v d → Q v H'
structure CalD (P : Program) (w : World) (K : Frag) (mg : PySem.Str → Option Value) (base : Heap) (k : Nat) (x : PySem.Str) (hm : Bool) (sp : DSp) : Prop where
  ex : ∃ f fd ps, FnOk P w K mg base CX0 k f fd ps (spD K hm sp) ∧ mg x = some (.ref f) ∧ PySem.W.keepIn K (.ref f) = true ∧ Binds K fd ps []
abbrev dCall (sp : DSp) (t : DA) : DE := fun s Q => t s fun ds k => sp ds 0 fun d _ => Q d k
abbrev dCallM (i : Nat) (sp : DSp) (t : DA) : DE := fun s Q => s.sl[i]? = some .mst ∧ t s fun ds k => sp ds k Q
theorem Rep.allHid {c : C} {s : S} {σ : L2.St} {H : Hp} (r : Rep c s σ H) : ∀ a ∈ Ml c.M ++ s.X, H a ≠ none := fun a h => by
  rcases List.mem_append.mp h with h | h
  · exact r.m.there a h
  · exact r.xs a h
theorem MAt.noTb {m : Option Mc} {H : Hp} {k : Nat} (h : MAt m H k) : ∀ a ∈ Ml m, ∀ ps, H a ≠ some (.tbl ps) := by
  cases m with
  | none => intro a ha; simp [Ml] at ha
  | some m =>
    cases ek : m.kd with
    | none =>
      obtain ⟨cs, gs, n, o, q⟩ := h.dr ek
      intro a ha ps
      simp [Ml] at ha
      rcases ha with rfl | rfl | rfl
      · rw [o.hm]; intro e; cases e
      · rw [o.hc]; intro e; cases e
      · rw [o.hg]; intro e; cases e
    | some kn =>
      obtain ⟨L, o⟩ := h.kn ek
      intro a ha ps
      simp [Ml] at ha
      have : a = m.pm := by
        rcases ha with rfl | rfl | rfl
        · rfl
        · exact o.pc
        · exact o.pg
      rw [this, o.hp]; intro e; cases e
theorem Rep.allTb {c : C} {s : S} {σ : L2.St} {H : Hp} (r : Rep c s σ H) : ∀ a ∈ Ml c.M ++ s.X, ∀ ps, H a ≠ some (.tbl ps) := fun a h => (List.mem_append.mp h).elim (r.m.noTb a) (r.xt a)
theorem Rep.after {c : C} {s : S} {σ : L2.St} {H H' : Hp} {k : Nat} (r : Rep c s σ H) (a : Aft c.K none (Ml c.M ++ s.X) H H' k) : Rep c s σ H' ∧ AdvE c s.X H H' := by
  have h : Sub (c.hid s.X H) (c.hid s.X H') := a.sub
  refine ⟨r.step (k := s.k) h (fun b hb _ => a.old b (List.mem_append_right _ hb)) (r.m.eq (fun b hb _ => a.old b (List.mem_append_left _ hb)) a.tb) (r.tb.trans a.tb), h, fun b hb => a.old b (List.mem_append_right _ hb)⟩
theorem Rep.afterM {c : C} {s : S} {σ : L2.St} {H H' : Hp} {k : Nat} (r : Rep c s σ H) (a : Aft c.K c.M s.X H H' k) : Rep c (s.at k) σ H' ∧ AdvE c s.X H H' :=
  ⟨r.step a.sub (fun b hb _ => a.old b hb) a.m (r.tb.trans a.tb), a.sub, a.old⟩
section
variable {X : Cx} {c : C} {k j : Nat} {x : PySem.Str} {sp : DSp} {p pos : Pos}
theorem pd_call (hK : c.K = X.K) (F : CalD X.prog X.w X.K X.mg X.base k x false sp) (hr : Room j X.A) (hk : k ≤ j) {e : Expr} {es : List Expr} {t : DA} (ha : PA X (e :: es) (LA c t)) (hg : Gl X x := by rfl) (hdb : (x == ("__debug__" : PySem.Str)) = false := by decide) (he : starEach (e :: es) X.env = (false, eval e X.env) :: starEach es X.env := by rfl) (hpl : (backTo pos (starEach es X.env)).any (·.1) = false := by rfl) :
    PE X (.Call (.Name x p) (e :: es) [] pos) (LE c (dCall sp t)) := by
  obtain ⟨f, fd, ps, G, hm, kp, b⟩ := F.ex
  refine (pe_call G (hr.mono hk) hg hm kp b .nil pass0 ha hdb he hpl).weak fun σ H Q ⟨s, R, rp, q, fn⟩ => ⟨s, _, rp, q, fun ds k1 h1 vs H1 r1 a1 e1 => ?_⟩
  refine ⟨none, Ml c.M ++ s.X, 0, ds, vs, _, ⟨rfl, by rw [List.append_nil]⟩, ⟨fun a _ => by simp [Ml], r1.allHid, trivial, hK ▸ e1, r1.allTb⟩, h1, fun d k' hR v H' af er => ?_⟩
  have z := Rep.after (s := s.at k1) r1 ⟨af.sub, af.old, af.m, af.tb⟩
  exact fn d k1 hR v H' z.1 (a1.trans z.2) (hK ▸ er)
theorem pd_callM (hK : c.K = X.K) (F : CalD X.prog X.w X.K X.mg X.base k x true sp) (hr : Room j X.A) (hk : k ≤ j) (i : Nat) {y : PySem.Str} {pn : Pos} {es : List Expr} {t : DA} (ha : PA X es (LA c t)) (hN : X.N[i]? = some y := by rfl) (hv : Vis X.env.scope y := by first | exact Or.inl rfl | exact Or.inr (Or.inl rfl) | exact Or.inr (Or.inr rfl)) (hd : (y == ("__debug__" : PySem.Str)) = false := by decide) (hcd : (y == ("__classdict__" : PySem.Str)) = false := by decide)
    (hg : Gl X x := by rfl) (hdb : (x == ("__debug__" : PySem.Str)) = false := by decide) (he : starEach (Expr.Name y pn :: es) X.env = (false, eval (Expr.Name y pn) X.env) :: starEach es X.env := by rfl) (hpl : (backTo pos (starEach es X.env)).any (·.1) = false := by rfl) :
    PE X (.Call (.Name x p) (.Name y pn :: es) [] pos) (LE c (dCallM i sp t)) := by
  obtain ⟨f, fd, ps, G, hm, kp, b⟩ := F.ex
  refine (pe_call G (hr.mono hk) hg hm kp b .nil pass0 (pa_cons (pe_var hN hv hd hcd) ha he) hdb he hpl).weak fun σ H Q ⟨s, R, rp, ⟨hs, q⟩, fn⟩ => ?_
  obtain ⟨m, hM, e0⟩ := rp.slot i _ hs
  refine ⟨_, e0, s, _, rp, q, fun ds k1 h1 vs H1 r1 a1 e1 => ?_⟩
  refine ⟨c.M, s.X, k1, ds, vs, _, ⟨m, hM, by rw [List.append_nil]⟩, ⟨r1.xm, r1.xs, r1.m, hK ▸ e1, r1.xt⟩, h1, fun d k' hR v H' af er => ?_⟩
  have z := Rep.afterM (s := s.at k1) r1 ⟨af.sub, af.old, af.m, af.tb⟩
  exact fn d k' hR v H' z.1 (a1.trans z.2) (hK ▸ er)
end
@[reducible] def init (hm : Bool) (n : Nat) (ds : List D) : List Sl := (match hm with | true => [Sl.mst] | false => []) ++ ds.map .dat ++ List.replicate (n - (ds.length + (match hm with | true => 1 | false => 0))) .no
theorem start_get {N : List PySem.Str} {vs : List V} {i : Nat} {v : V} (h : vs[i]? = some v) : (L2.start N vs)[i]? = some (some v) := by
  unfold L2.start
  rw [List.getElem?_append_left (by rw [List.length_map]; exact (List.getElem?_eq_some_iff.mp h).1), List.getElem?_map, h]
  rfl
theorem init_rep {c : C} {hm : Bool} {N : List PySem.Str} {vs ws : List V} {ds : List D} {H : Hp} {k : Nat} (hc : c.H0 = H) (h : match hm with | true => ∃ m, (c.M = some m ∧ m.kd = none) ∧ vs = .ref m.pm :: ws | false => c.M = none ∧ vs = ws)
    (a : Ahd c.K c.M c.X0 H k ws ds) (hl : vs.length ≤ N.length) : Rep c ⟨c.X0, init hm N.length ds, k⟩ (L2.start N vs) H := by
  subst hc
  have len := a.args.len
  have dat : ∀ (i : Nat) (o : Nat) (x : Sl), (∀ (j : Nat) (w : V), ws[j]? = some w → vs[j + o]? = some w) → (ds.map Sl.dat ++ List.replicate (N.length - (ds.length + o)) Sl.no)[i]? = some x → SlOk c c.X0 c.H0 (L2.start N vs)[i + o]? x := fun i o x hw e => by
    by_cases hi : i < ds.length
    · rw [List.getElem?_append_left (by rw [List.length_map]; exact hi), List.getElem?_map] at e
      obtain ⟨d, hd⟩ : ∃ d, ds[i]? = some d := ⟨ds[i], by simp [hi]⟩
      rw [hd] at e
      cases e
      obtain ⟨w, h1, h2⟩ := a.args.getD hd
      exact ⟨w, start_get (hw i w h1), h2⟩
    · rw [List.getElem?_append_right (by rw [List.length_map]; omega), List.getElem?_replicate] at e
      split at e
      · cases e; trivial
      · cases e
  refine ⟨Sub.refl _, fun _ _ _ _ => rfl, fun _ h => h, a.xm, a.xs, a.m, fun i x e => ?_, fun i j p q as bs e1 _ _ => ?_, ?_, .refl, a.xt⟩
  · cases hm with
    | false =>
      obtain ⟨_, rfl⟩ := h
      exact dat i 0 x (fun j w h => h) (by simpa [init] using e)
    | true =>
      obtain ⟨m, hM, rfl⟩ := h
      cases i with
      | zero =>
        have e' : Sl.mst = x := Option.some.inj e
        subst e'
        exact ⟨m, hM, start_get rfl⟩
      | succ i => exact dat i 1 x (fun j w h => h) (by simpa [init] using e)
  · have e1 : (init hm N.length ds)[i]? = some (.own p as) := e1
    unfold init at e1
    have mem := List.mem_of_getElem? e1
    cases hm <;> simp at mem
  · show (init hm N.length ds).length = (L2.start N vs).length
    unfold init L2.start
    cases hm with
    | false =>
      obtain ⟨_, rfl⟩ := h
      simp
      omega
    | true =>
      obtain ⟨m, hM, rfl⟩ := h
      simp at hl
      simp
      omega
section
variable {P : Program} {w : World} {K : Frag} {mg : PySem.Str → Option Value} {base : Heap}
theorem okD {x qual : PySem.Str} {st : Stmt} {f : Addr} {fd : FuncData} {N ps : List PySem.Str} {k : Nat} {hm : Bool} {sp : DSp} (F : Fun K x qual st f fd) (Sc : FnScope N ps (defScope st)) (ow : List Nat)
    (len : ∀ ds k R, sp ds k R → ds.length + (match hm with | true => 1 | false => 0) = ps.length)
    (body : ∃ t : DS, (∀ (cdv : Value) (A : Around) (outer : List Env) (s : Shared) (H : Hp) (E : XK) (M : Option Mc) (X0 : List Addr), Room k (A.deeper (PyProof.Rows.envOfC qual (defScope st) s.heap.objs.size f cdv)) →
        PSs (cxOf CX0 P w K mg base N qual (defScope st) f cdv A outer s H E).nox (defBody st) (LS ⟨K, M, X0, H, ow⟩ t)) ∧
      ∀ X ds k R, sp ds k R → t { nx := fun s => R .non s.k, rt := R } ⟨X, init hm N.length ds, k⟩) :
    FnOk P w K mg base CX0 (k + 1) f fd ps (spD K hm sp) := by
  obtain ⟨t, hb, hr⟩ := body
  have lens : ∀ vs H Q E, spD K hm sp vs H Q E → vs.length = ps.length := fun vs H Q E ⟨M, X0, k, ds, ws, R, h1, a, h2, h3⟩ => by
    have q := len ds k R h2
    have l := a.args.len
    cases hm with
    | false =>
      obtain ⟨_, rfl⟩ := h1
      rw [l]
      exact q
    | true =>
      obtain ⟨m, _, rfl⟩ := h1
      rw [List.length_cons, l]
      exact q
  refine F.ok Sc lens fun cdv A outer s H vs Q E room h => ?_
  have hl := lens _ _ _ _ h
  obtain ⟨M, X0, k', ds, ws, R, h1, a, h2, h3⟩ := h
  have hpl : ps.length ≤ N.length := by have := congrArg List.length Sc.pre; rw [List.length_take] at this; omega
  refine ⟨LS ⟨K, M, X0, H, ow⟩ t, hb cdv A outer s H E M X0 room, ⟨X0, init hm N.length ds, k'⟩, _, init_rep (c := ⟨K, M, X0, H, ow⟩) rfl h1 a (by omega), hr X0 ds k' R h2, ?_⟩
  have fin : ∀ d k v H', Fin ⟨K, M, X0, H, ow⟩ H' k → Rl K (wo H' (Ml M ++ X0)) v d → R d k → Q v H' := fun d k v H' fi e r => h3 d k r v H' ⟨fi.sub, fun b hb => fi.old b hb (a.xm b hb) (a.xs b hb), fi.m, fi.tb⟩ e
  exact ⟨fun s' σ' H' r _ q => fin .non s'.k .non H' r.fin .non q, fun _ _ _ _ _ q => q, fun _ _ _ _ _ q => q, fun d k v H' fi e r => fin d k v H' fi e r⟩
end
end DL
namespace DL
open PySem L2
open PySem.W (Frag)
inductive KvA (K : Frag) (H : Hp) : List (Int × V) → List (Int × D) → Prop
  | nil : KvA K H [] []
  | cons {k : Int} {v : V} {vs : List (Int × V)} {d : D} {ds : List (Int × D)} : Rl K H v d → KvA K H vs ds → KvA K H ((k, v) :: vs) ((k, d) :: ds)
def lookI {α : Type} (l : List (Int × α)) (i : Int) : Option α := (l.find? fun p => decide (p.1 = i)).map (·.2)
theorem KvA.look {K : Frag} {H : Hp} : ∀ {vs : List (Int × V)} {ds : List (Int × D)} {i : Int}, KvA K H vs ds → (∀ d, lookI ds i = some d → ∃ v, lookI vs i = some v ∧ Rl K H v d) ∧ (lookI ds i = none → lookI vs i = none)
  | _, _, i, .nil => ⟨fun d h => (by cases h), fun _ => rfl⟩
  | _, _, i, .cons (k := k) (v := v) (d := e) r rr => by
    have ih := KvA.look (i := i) rr
    unfold lookI at ih ⊢
    by_cases hk : k = i
    · subst hk
      simp only [List.find?_cons, decide_true, Option.map_some, Option.some.injEq]
      exact ⟨fun d h => (by subst h; exact ⟨v, rfl, r⟩), fun h => (by cases h)⟩
    · simp only [List.find?_cons, decide_eq_false hk]
      exact ih
structure KdAt (P : Program) (w : World) (K : Frag) (mg : PySem.Str → Option Value) (x : PySem.Str) (kvs : List (Int × D)) : Prop where
  ex : ∃ (a : Addr) (us : List (Int × Value)) (vs : List (Int × V)), mg x = some (.ref a) ∧ (a == sysModules) = false ∧ (∀ h : Heap, K.In h → h.DictOf (intKind P w) a us) ∧ KV vs us ∧ ∀ H, KvA K H vs kvs
theorem KV.look {vs : List (Int × V)} {us : List (Int × Value)} {i : Int} (r : KV vs us) : RelO (lookI vs i) (valueAt us i) := by
  have h : RelO ((vs.find? fun kv => decide (kv.1 = i)).map (·.2)) (valueAt us i) := by
    unfold valueAt
    induction r with
    | nil => trivial
    | @cons p q _ _ h t ih =>
      obtain ⟨a, b⟩ := p
      obtain ⟨a', b'⟩ := q
      obtain ⟨h1, h2⟩ := h
      have h1 : a = a' := h1
      subst h1
      by_cases e : a = i
      · simp only [List.find?_cons, decide_eq_true e]
        exact h2
      · simp only [List.find?_cons, decide_eq_false e]
        exact ih
  exact h
abbrev dKd (kvs : List (Int × D)) (t : DE) : DE := fun s Q => t s fun d k => ∃ i e, d = .int i ∧ lookI kvs i = some e ∧ Q e k
abbrev dKdIn (kvs : List (Int × D)) (t : DE) : DE := fun s Q => t s fun d k => ∃ i, d = .int i ∧ Q (.bl (lookI kvs i).isSome) k
section
variable {X : Cx} {c : C} {pos : Pos} {x : PySem.Str} {kvs : List (Int × D)}
theorem pd_kd (hK : c.K = X.K) (h : KdAt X.prog X.w X.K X.mg x kvs) {pn : Pos} {i : Expr} {t : DE} (ht : PE X i (LE c t)) (hs : NoSl i := by exact fun _ _ => rfl) (hg : Gl X x := by rfl) (hdb : (x == ("__debug__" : PySem.Str)) = false := by decide) :
    PE X (.Subscript (.Name x pn) i pos) (LE c (dKd kvs t)) := by
  obtain ⟨a, us, vs, hm, low, hd, kv, rl⟩ := h.ex
  refine ⟨fun pins s σ H Q I ⟨st, R, rp, q, f⟩ => ?_⟩
  refine subD_of PySem.F.slot_dict_getitem.lookup hs ?_
  refine ld_glob I hg hm ?_ hdb
  refine thn (ht.run pins s σ H _ I ⟨st, _, rp, q, fun d k h v H1 r1 a1 e1 => (⟨d, k, h, r1, a1, e1⟩ : (fun v H1 => ∃ d k, (∃ i e, d = D.int i ∧ lookI kvs i = some e ∧ R e k) ∧ Rep c (st.at k) σ H1 ∧ AdvE c st.X H H1 ∧ Rl c.K (c.hid st.X H1) v d) v H1)⟩) fun u s1 ⟨v, H1, I1, rv, d, k, ⟨j, e, hj, he, hR⟩, r1, a1, e1⟩ => ?_
  subst hj
  cases e1.intE
  obtain ⟨t', rfl⟩ := rv
  have dd := hd s1.heap I1.kIn
  obtain ⟨v, hv, hr⟩ := ((rl (c.hid st.X H1)).look (i := j)).1 e he
  obtain ⟨u, hu, ru⟩ := RelO.some_of (v := v) (o := valueAt us j) (by rw [← hv]; exact KV.look kv)
  exact ⟨dd.typeIs, wpAny_getItem_of (knd := intKind X.prog X.w) (k := j) (by simp [intKind, Value.isInt]) dd.mapOf hu ⟨v, H1, I1.tok _, ru, f e k hR v H1 r1 a1 (hK ▸ hr)⟩⟩
theorem pd_inkd (h : KdAt X.prog X.w X.K X.mg x kvs) {pn : Pos} {i : Expr} {t : DE} (ht : PE X i (LE c t)) (hg : Gl X x := by rfl) (hdb : (x == ("__debug__" : PySem.Str)) = false := by decide) (hb : behindInMarks .In (Expr.Name x pn) = false := by rfl) :
    PE X (.Compare i [.In] [.Name x pn] pos) (LE c (dKdIn kvs t)) := by
  obtain ⟨a, us, vs, hm, low, hd, kv, rl⟩ := h.ex
  refine pe_cmp (op := .In) ⟨fun pins s σ H Q I ⟨st, R, rp, q, f⟩ => ?_⟩ hb
  refine thn (ht.run pins s σ H _ I ⟨st, _, rp, q, fun d k h v H1 r1 a1 e1 => (⟨d, k, h, r1, a1, e1⟩ : (fun v H1 => ∃ d k, (∃ i, d = D.int i ∧ R (.bl (lookI kvs i).isSome) k) ∧ Rep c (st.at k) σ H1 ∧ AdvE c st.X H H1 ∧ Rl c.K (c.hid st.X H1) v d) v H1)⟩) fun u s1 ⟨v, H1, I1, rv, d, k, ⟨j, hj, hR⟩, r1, a1, e1⟩ => ?_
  subst hj
  cases e1.intE
  obtain ⟨t', rfl⟩ := rv
  refine ld_glob I1 hg hm ?_ hdb
  have dd := hd s1.heap I1.kIn
  refine wpAny_in_of (knd := intKind X.prog X.w) (k := j) (by simp [intKind, Value.isInt]) low dd.mapOf ?_
  have z := KV.look (i := j) kv
  have y := (rl (c.hid st.X H1)).look (i := j)
  have eq : (valueAt us j).isSome = (lookI kvs j).isSome := by
    cases h1 : lookI kvs j with
    | none =>
      rw [y.2 h1] at z
      cases h2 : valueAt us j with
      | none => rfl
      | some u => rw [h2] at z; exact z.elim
    | some d =>
      obtain ⟨v, h3, _⟩ := y.1 d h1
      rw [h3] at z
      cases h2 : valueAt us j with
      | none => rw [h2] at z; exact z.elim
      | some u => rfl
  rw [eq]
  exact ⟨.bl _, H1, I1.tok _, rfl, f _ k hR _ H1 r1 a1 (.bl _)⟩
end
end DL
namespace DL
open PySem L2
open PySem.W (Frag)
theorem KvA.keys {K : Frag} {H : Hp} : ∀ {vs : List (Int × V)} {ds : List (Int × D)}, KvA K H vs ds → vs.map (·.1) = ds.map (·.1)
  | _, _, .nil => rfl
  | _, _, .cons _ r => congrArg (_ :: ·) (KvA.keys r)
theorem KvA.mono {K : Frag} {A B : Hp} (x : Sub A B) : ∀ {vs : List (Int × V)} {ds : List (Int × D)}, KvA K A vs ds → KvA K B vs ds
  | _, _, .nil => .nil
  | _, _, .cons h r => .cons (h.mono x) (KvA.mono x r)
theorem Rep.mutX {c : C} {s : S} {σ : L2.St} {H : Hp} {p : Addr} {o : HO} (r : Rep c s σ H) (hp : p ∈ s.X) (h0 : p ∉ c.X0) (no : ∀ (i : Nat) ds, s.sl[i]? ≠ some (.own p ds)) (tb : TbK H (upd H p o)) (ht : NoTb o := by intro _ z; cases z) : Rep c s σ (upd H p o) ∧ Sub (c.hid s.X H) (c.hid s.X (upd H p o)) := by
  have sm : Sub (c.hid s.X H) (c.hid s.X (upd H p o)) := wo_mut (List.mem_append_right _ hp)
  refine ⟨⟨r.sub.trans sm, fun a ha hm hn => ?_, r.x0, r.xm, fun a ha => ?_, r.m.eq (fun a ha _ => upd_ne fun z => r.xm p hp (by rw [← z]; exact ha)) tb, fun j x e => ?_, r.apart, r.len, r.tb.trans tb, fun a ha => by
      by_cases z : a = p
      · rw [z, upd_same]; exact fun ps e => ht ps (Option.some.inj e)
      · rw [upd_ne z]; exact r.xt a ha⟩, sm⟩
  · rw [upd_ne fun z => h0 (by rw [← z]; exact ha)]
    exact r.old a ha hm hn
  · by_cases z : a = p
    · rw [z, upd_same]; simp
    · rw [upd_ne z]; exact r.xs a ha
  · have q := r.slot j x e
    cases x with
    | no => trivial
    | dat d =>
      obtain ⟨v, e, h⟩ := q
      exact ⟨v, e, h.mono sm⟩
    | own w ds =>
      obtain ⟨e', h1, h2, h3, ws, h4, h5⟩ := q
      have nw : w ≠ p := fun z => no j ds (z ▸ e)
      exact ⟨e', h1, h2, h3, ws, by rw [upd_ne nw]; exact h4, h5.mono sm⟩
    | mst => exact q
    | kds N Z => exact q
    | scr ns =>
      obtain ⟨v, e, h⟩ := q
      exact ⟨v, e, sm.sl h⟩
def D.tname : D → Option String
  | .non => some "NoneType"
  | .bl _ => some "bool"
  | .int _ => some "int"
  | .str _ => some "str"
  | .lst _ => some "list"
  | .tup _ => some "tuple"
  | .dic => some "dict"
  | .ins _ _ _ => none
  | .exc _ _ _ => none
  | .dct _ _ => none
abbrev dIsi (T : String) (t : DE) : DE := fun s Q => t s fun d k => ∃ n b, d.tname = some n ∧ kitB n T = some b ∧ Q (.bl b) k
abbrev dIsi2 (T U : String) (t : DE) : DE := fun s Q => t s fun d k => ∃ n a b, d.tname = some n ∧ kitB n T = some a ∧ kitB n U = some b ∧ Q (.bl (a || b)) k
theorem Rl.ty {K : Frag} {H : Hp} {v : V} {d : D} {n : String} (h : Rl K H v d) (e : d.tname = some n) : TyX K H v (.type n) := by
  cases h with
  | non => cases e; exact .base .non
  | bl b => cases e; exact .base (.bl b)
  | int i => cases e; exact .base (.int i)
  | str x => cases e; exact .base (.str x)
  | lst h _ => cases e; exact .base (.lst h)
  | tup h _ =>
    cases e
    rcases h with (h | ⟨o, h⟩) | ⟨o, its, m, h1, h2, _⟩
    · exact .base (.tup h)
    · exact .fTuple h
    · exact .kTuple h1 h2
  | dic h => cases e; exact .base (.dK h)
  | ins _ _ _ => cases e
  | exc _ _ _ _ => cases e
  | dct _ _ _ _ _ => cases e
section
variable {X : Cx} {c : C} {pos p : Pos}
theorem pd_isi (hK : c.K = X.K) (hm : X.mg "isinstance" = none) {T : PySem.Str} {Tn : String} (hT : X.mg T = none) (hb : bootBuiltins T = some (.type Tn)) {e : Expr} {t : DE} {pt : Pos} (h : PE X e (LE c t)) (hg : Gl X "isinstance" := by rfl) (hgT : Gl X T := by rfl) (hnT : T ≠ "__name__" := by decide) (hdT : (T == ("__debug__" : PySem.Str)) = false := by decide)
    (hs : starEach [e, Expr.Name T pt] X.env = (false, eval e X.env) :: starEach [Expr.Name T pt] X.env := by rfl) (hs2 : starEach [Expr.Name T pt] X.env = (false, eval (Expr.Name T pt) X.env) :: starEach [] X.env := by rfl) (hp : (backTo pos (starEach [Expr.Name T pt] X.env)).any (·.1) = false := by rfl) :
    PE X (.Call (.Name "isinstance" p) [e, .Name T pt] [] pos) (LE c (dIsi Tn t)) :=
  (pe_callB call_isi hg hm PyProof.Rows.boot_isinstance (pa_cons h (pa_cons (pe_bltn (v := .ty Tn) hgT hT hb rfl hnT hdT) pa_nil hs2) hs) (he := hs) (hpl := hp)).weak fun σ H Q ⟨s, R, rp, q, f⟩ => ⟨s, _, rp, q, fun d k ⟨n, b, h1, h2, h3⟩ v H1 r1 a1 e1 =>
    ⟨v, _, _, _, b, rfl, .ty Tn, hK ▸ Rl.ty e1.all h1, kit_ty h2, f _ k h3 _ H1 r1 a1 (.bl _)⟩⟩
theorem pd_isi2 (hK : c.K = X.K) (hm : X.mg "isinstance" = none) {T U : PySem.Str} {Tn Un : String} (hT : X.mg T = none) (hU : X.mg U = none) (hb : bootBuiltins T = some (.type Tn)) (hbU : bootBuiltins U = some (.type Un)) {e : Expr} {t : DE} {pt pu ptt : Pos} {kk} (h : PE X e (LE c t)) (hg : Gl X "isinstance" := by rfl) (hgT : Gl X T := by rfl) (hgU : Gl X U := by rfl) (hnT : T ≠ "__name__" := by decide) (hdT : (T == ("__debug__" : PySem.Str)) = false := by decide) (hnU : U ≠ "__name__" := by decide) (hdU : (U == ("__debug__" : PySem.Str)) = false := by decide)
    (hsT : starEach [Expr.Name T pt, Expr.Name U pu] X.env = (false, eval (Expr.Name T pt) X.env) :: starEach [Expr.Name U pu] X.env := by rfl) (hsU : starEach [Expr.Name U pu] X.env = (false, eval (Expr.Name U pu) X.env) :: starEach [] X.env := by rfl)
    (hs : starEach [e, Expr.Tuple [Expr.Name T pt, Expr.Name U pu] kk ptt] X.env = (false, eval e X.env) :: starEach [Expr.Tuple [Expr.Name T pt, Expr.Name U pu] kk ptt] X.env := by rfl) (hs2 : starEach [Expr.Tuple [Expr.Name T pt, Expr.Name U pu] kk ptt] X.env = (false, eval (Expr.Tuple [Expr.Name T pt, Expr.Name U pu] kk ptt) X.env) :: starEach [] X.env := by rfl) (hp : (backTo pos (starEach [Expr.Tuple [Expr.Name T pt, Expr.Name U pu] kk ptt] X.env)).any (·.1) = false := by rfl) :
    PE X (.Call (.Name "isinstance" p) [e, .Tuple [.Name T pt, .Name U pu] kk ptt] [] pos) (LE c (dIsi2 Tn Un t)) :=
  (pe_callB call_isiT hg hm PyProof.Rows.boot_isinstance (pa_cons h (pa_cons (pe_tup (pa_cons (pe_bltn (v := .ty Tn) hgT hT hb rfl hnT hdT) (pa_cons (pe_bltn (v := .ty Un) hgU hU hbU rfl hnU hdU) pa_nil hsU) hsT)) pa_nil hs2) hs) (he := hs) (hpl := hp)).weak fun σ H Q ⟨s, R, rp, q, f⟩ => ⟨s, _, rp, q, fun d k ⟨n, a, b, h1, h2, h2', h3⟩ v H1 r1 a1 e1 => by
    refine ⟨by show 2 ≤ sizeLine; decide, fun tp hn => ?_⟩
    have nw := r1.new (o := .tup [.ty Tn, .ty Un]) hn
    refine ⟨v, tp, _, _, [.type Tn, .type Un], a || b, rfl, upd_same, .cons (.ty Tn) (.cons (.ty Un) .nil), hK ▸ Rl.ty (e1.mono nw.2.sub).all h1, ?_, f _ k h3 _ _ nw.1 (a1.trans nw.2) (.bl _)⟩
    refine kitAny_cons (kit_ty h2) (fun ha => ?_) (fun ha => by rw [ha]; rfl)
    rw [ha]
    exact kitAny_cons (kit_ty h2') (fun hb => by rw [hb]; exact kitAny_nil) (fun hb => by rw [hb]; rfl)⟩
end
end DL
namespace PySem
open Builtin
end PySem
namespace DL
open PySem L2
open PySem.W (Frag)
end DL
namespace DL
open PySem L2
open PySem.W (Frag)
abbrev iScr (i : Nat) : DI := fun s Q => ∃ ns : List Int, s.sl[i]? = some (.scr ns) ∧ Q (ns.map .int) s.k
abbrev iScE (i : Nat) : DI := fun s Q => ∃ ns : List Int, s.sl[i]? = some (.scr ns) ∧ Q (enumD 0 (ns.map .int)) s.k
theorem Yl.scr {c : C} {s0 : S} {Hs : Hp} {K : Frag} {a : Addr} {vs : List V} {ds : List D} (hK : c.K = K) (h : SqL c.K (c.hid s0.X Hs) a vs) (r : RlA c.K (c.hid s0.X Hs) vs ds) : Yl c s0 Hs (Itl K a) ds := fun i s σ H rp ad => by
  have h1 : SqL K H a vs := hK ▸ (ad.trans (wo_sub _ _)).sl h
  have r1 := r.mono ad
  refine ⟨fun hl => ⟨vs, h1, by rw [r.len]; exact hl⟩, fun d hd => ?_⟩
  obtain ⟨v, hv, hr⟩ := r1.getD hd
  refine ⟨⟨vs, v, h1, hv⟩, fun x H' ⟨e1, e2⟩ => ?_⟩
  subst e1
  have e3 := e2 vs h1
  rw [hv] at e3
  cases e3
  exact ⟨rp, AdvE.refl, hr⟩
theorem Yl.scrE {c : C} {s0 : S} {Hs : Hp} {K : Frag} {a : Addr} {vs : List V} {ds : List D} (hK : c.K = K) (h : SqL c.K (c.hid s0.X Hs) a vs) (r : RlA c.K (c.hid s0.X Hs) vs ds) : Yl c s0 Hs (Ite K a) (enumD 0 ds) := fun i s σ H rp ad => by
  have h1 : SqL K H a vs := hK ▸ (ad.trans (wo_sub _ _)).sl h
  have r1 := r.mono ad
  refine ⟨fun hl => ⟨vs, h1, by rw [r.len, ← enum_len ds 0]; exact hl⟩, fun d hd => ?_⟩
  obtain ⟨e, he, rfl⟩ := enum_at hd
  obtain ⟨v, hv, hr⟩ := r1.getD he
  refine ⟨⟨vs, v, h1, hv⟩, fun x H' ⟨T, y, e1, e2, e3, e4⟩ => ?_⟩
  subst e1 e3
  have e5 := e4 vs h1
  rw [hv] at e5
  cases e5
  rw [Nat.zero_add]
  exact Yl.pair rp e2 (.int _) hr
section
variable {X : Cx} {c : C} {tg : Expr}
theorem pid_scr (hK : c.K = X.K) (i : Nat) {x : PySem.Str} {pn : Pos} (hN : X.N[i]? = some x := by rfl) (hv : Vis X.env.scope x := by first | exact Or.inl rfl | exact Or.inr (Or.inl rfl) | exact Or.inr (Or.inr rfl)) (hd : (x == ("__debug__" : PySem.Str)) = false := by decide) (hcd : (x == ("__classdict__" : PySem.Str)) = false := by decide) :
    PI X tg (.Name x pn) (LI c (iScr i)) :=
  PI.weak (pi_list (pe_var hN hv hd hcd)) fun σ H R ⟨s, Z, rp, ⟨ns, hs, hz⟩, f⟩ => by
    obtain ⟨a, e, h⟩ := rp.slot i _ hs
    exact ⟨_, e, a, rfl, ⟨_, hK ▸ (wo_sub _ _).sl h⟩, f _ s.k hz _ H rp AdvE.refl (Yl.scr hK h (RlA.ints ns))⟩
theorem pid_scrE (hK : c.K = X.K) (i : Nat) {x : PySem.Str} {pn p pos tpos : Pos} {elts : List Expr} {kk : Nat} (hm : X.mg "enumerate" = none) (hN : X.N[i]? = some x := by rfl) (hv : Vis X.env.scope x := by first | exact Or.inl rfl | exact Or.inr (Or.inl rfl) | exact Or.inr (Or.inr rfl)) (hd : (x == ("__debug__" : PySem.Str)) = false := by decide) (hcd : (x == ("__classdict__" : PySem.Str)) = false := by decide)
    (hg : Gl X "enumerate" := by rfl) (hs : starEach [Expr.Name x pn] X.env = [(false, eval (Expr.Name x pn) X.env)] := by rfl) : PI X (.Tuple elts kk tpos) (.Call (.Name "enumerate" p) [.Name x pn] [] pos) (LI c (iScE i)) :=
  PI.weak (pi_enum hg hm (pa_cons (pe_var hN hv hd hcd) pa_nil hs) hs) fun σ H R ⟨s, Z, rp, ⟨ns, hs, hz⟩, f⟩ => by
    obtain ⟨a, e, h⟩ := rp.slot i _ hs
    exact ⟨_, e, a, _, rfl, hK ▸ (wo_sub _ _).sl h, f _ s.k hz _ H rp AdvE.refl (Yl.scrE hK h (RlA.ints ns))⟩
end
def spS (K : Frag) (sp : List Int → (D → Prop) → Prop) : Sp := fun vs H Q _ => ∃ (a : Addr) (ns : List Int) (R : D → Prop), vs = [.ref a] ∧ SqL K H a (ns.map V.int) ∧ sp ns R ∧ ∀ d, R d → ∀ v H', Sub (wo H []) (wo H' []) → TbK H H' → Rl K H' v d → Q v H'
theorem Sub.out {A B : Hp} (s : Sub (wo A []) (wo B [])) {b : Addr} {o : HO} (h : A b = some o) (n : NoTb o := by intro _ z; cases z) : B b = some o := (wo_ne (s b o (wo_of (by simp) h n))).2
theorem sl_in {K : Frag} {A : Hp} {a : Addr} {vs : List V} (h : SqL K A a vs) : SqL K (wo A []) a vs := by
  rcases h with (h | ⟨o, h⟩) | h
  · exact .inl (.inl (wo_of (by simp) h))
  · exact .inl (.inr ⟨o, wo_of (by simp) h⟩)
  · exact .inr h
section
variable {P : Program} {w : World} {K : Frag} {mg : PySem.Str → Option Value} {base : Heap}
theorem okS {x qual : PySem.Str} {st : Stmt} {f : Addr} {fd : FuncData} {N : List PySem.Str} {y : PySem.Str} {k : Nat} {sp : List Int → (D → Prop) → Prop} (F : Fun K x qual st f fd) (Sc : FnScope N [y] (defScope st)) (ow : List Nat)
    (body : ∃ t : DS, (∀ (cdv : Value) (A : Around) (outer : List Env) (s : Shared) (H : Hp) (E : XK), Room k (A.deeper (PyProof.Rows.envOfC qual (defScope st) s.heap.objs.size f cdv)) →
        PSs (cxOf CX0 P w K mg base N qual (defScope st) f cdv A outer s H E).nox (defBody st) (LS ⟨K, none, [], H, ow⟩ t)) ∧
      ∀ ns R, sp ns R → t { nx := fun _ => R .non, rt := fun d _ => R d } ⟨[], .scr ns :: List.replicate (N.length - 1) .no, 0⟩) :
    FnOk P w K mg base CX0 (k + 1) f fd [y] (spS K sp) := by
  obtain ⟨t, hb, hr⟩ := body
  refine F.ok Sc (fun vs H Q E ⟨a, ns, R, h, _⟩ => by rw [h]; rfl) fun cdv A outer s H vs Q E room h => ?_
  obtain ⟨a, ns, R, rfl, ha, hsp, fin⟩ := h
  refine ⟨LS ⟨K, none, [], H, ow⟩ t, hb cdv A outer s H E room, ⟨[], .scr ns :: List.replicate (N.length - 1) .no, 0⟩, _, ?_, hr ns R hsp, ?_⟩
  · refine ⟨Sub.refl _, fun _ h => (nomatch h), fun _ h => h, fun _ h => (nomatch h), fun _ h => (nomatch h), trivial, fun i z e => ?_, fun i j p q ds es e _ _ => ?_, ?_, .refl, fun _ h => (nomatch h)⟩
    · cases i with
      | zero =>
        obtain rfl : Sl.scr ns = z := Option.some.inj e
        exact ⟨a, start_get rfl, sl_in ha⟩
      | succ i =>
        have e : (List.replicate (N.length - 1) Sl.no)[i]? = some z := e
        rw [List.getElem?_replicate] at e
        split at e
        · cases e; trivial
        · cases e
    · have e : (Sl.scr ns :: List.replicate (N.length - 1) Sl.no)[i]? = some (.own p ds) := e
      have mem := List.mem_of_getElem? e
      simp at mem
    · have : 1 ≤ N.length := by have := congrArg List.length Sc.pre; rw [List.length_take] at this; simp at this; omega
      show (Sl.scr ns :: List.replicate (N.length - 1) Sl.no).length = (L2.start N [.ref a]).length
      unfold L2.start
      simp
      
  · have go : ∀ d v H', Sub (wo H []) (wo H' []) → TbK H H' → Rl K (wo H' []) v d → R d → Q v H' := fun d v H' sb tb e r => fin d r v H' sb tb (e.mono (wo_sub _ _))
    exact ⟨fun s' σ' H' r _ q => go .non .non H' (r.sub.trans r.sub0) r.tb .non q, fun _ _ _ _ _ q => q, fun _ _ _ _ _ q => q, fun d k v H' fi e r => go d v H' fi.sub fi.tb e r⟩
end
end DL
namespace DL
open PySem L2
open PySem.W (Frag)
abbrev fldD {α : Type} (ns : List PySem.Str) (xs : List α) (f : PySem.Str) : Option α := (ns.zip xs).lookup f
theorem fld_rl {K : Frag} {H : Hp} {f : PySem.Str} : ∀ {ns : List PySem.Str} {vs : List V} {ds : List D} {d : D}, RlA K H vs ds → fldD ns ds f = some d → ∃ v, fldD ns vs f = some v ∧ Rl K H v d
  | [], _, _, _, _, h => by simp [fldD] at h
  | n :: ns, _, _, _, .nil, h => by simp [fldD] at h
  | n :: ns, v :: vs, d' :: ds, d, .cons r q, h => by
    unfold fldD at h ⊢
    rw [List.zip_cons_cons, List.lookup_cons] at h ⊢
    cases e : (f == n) with
    | true => rw [e] at h; cases h; exact ⟨v, rfl, r⟩
    | false => rw [e] at h; exact fld_rl q h
theorem Rl.insE {K : Frag} {H : Hp} {v : V} {C : Addr} {ns : List PySem.Str} {ds : List D} (h : Rl K H v (.ins C ns ds)) : ∃ a dx vs, v = .ref a ∧ H a = some (.ins C dx (ns.zip vs)) ∧ ns.length = vs.length ∧ RlA K H vs ds := by
  cases h with
  | ins h l r => exact ⟨_, _, _, rfl, h, l, r⟩
abbrev dFld (C : Addr) (f : PySem.Str) (t : DE) : DE := fun s Q => t s fun d k => ∃ ns xs e, d = .ins C ns xs ∧ fldD ns xs f = some e ∧ Q e k
section
variable {X : Cx} {c : C} {pos p : Pos} {e : Expr} {t : DE}
theorem pd_fld (hK : c.K = X.K) {C : Addr} {f : PySem.Str} (hC : Cls X.K C) (hn : NoAttr X.K C f) (ha : PE X e (LE c t)) (hb : attributeBase e f X.env (eval e X.env) = eval e X.env := by rfl) : PE X (.Attribute e f pos) (LE c (dFld C f t)) :=
  (pe_fld ha hb).weak fun σ H Q ⟨s, R, rp, q, fn⟩ => ⟨s, _, rp, q, fun d k ⟨ns, xs, e', hd, he, hR⟩ v H1 r1 a1 e1 => by
    subst hd
    obtain ⟨a, dx, vs, rfl, h1, l, r⟩ := e1.insE
    obtain ⟨u, h2, h3⟩ := fld_rl r he
    exact ⟨a, C, dx, _, u, rfl, wo_sub _ _ _ _ h1, hC, hn, h2, fn e' k hR u H1 r1 a1 h3⟩⟩
end
section
variable {X : Cx}
theorem call_lenO {C f : Addr} {fd : FuncData} {ps : List PySem.Str} {sp : Sp} {k : Nat} (hm : Meth X.K C "__len__" f) (F : FnOk X.prog X.w X.K X.mg X.base CX0 k f fd ps sp) (hr : Room (k + 1) X.A) (hb : Binds X.K fd ps []) :
    CallR X (.builtin "len") (fun xs H Q => ∃ a dx fs, xs = [.ref a] ∧ H a = some (.ins C dx fs) ∧ sp [.ref a] H (fun v H' => ∃ n : Nat, v = .int n ∧ n < 2 ^ 63 ∧ Q (.int n) H') E0) := by
  intro pins s σ H xs us Q I r ⟨a, dx, fs, hx, ea, h⟩
  subst hx
  obtain ⟨u, rfl, rx⟩ := vals1 r
  obtain rfl : u = Value.ref a := rx
  obtain ⟨mA, O, _, _, _, _⟩ := ins_get I.hok ea
  obtain ⟨od, J, _⟩ := O.look
  refine Calls.call_function_entry kind_len plain_len entry_len (args_len1 _) ?_
  unfold Builtin.«len»
  refine wpAny_bind (wpAny_pure ?_)
  refine wpAny_bind (PySem.W.special_fn I.kIn J hm.at_ (beq_iff_eq.mp hm.fn) ?_)
  have hl : ([Value.ref a] ++ []).length = ps.length := F.len _ _ _ _ h
  refine wpAny_call (codeAny_mono (F.run X.A.in1 X.stack s H ⟨[.ref a], []⟩ [.ref a] [.ref a] _ E0 hr.in1 I.env0.in1 (hb s [.ref a] I.kIn hl) (.cons rfl .nil) h) fun r s' hq => ?_)
  cases r with
  | error e => exact hq.elim
  | ok fl =>
    cases fl with
    | next => exact hq.elim
    | brk => exact hq.elim
    | cont => exact hq.elim
    | ret u =>
      obtain ⟨v, H', I', rv, n, rfl, hn, hQ⟩ := I.after hq
      obtain ⟨t, rfl⟩ := rv
      refine wpAny_bind (wpAny_holding (wpAny_pure ?_))
      refine wpAny_bind (wpAny_letGo ?_)
      show wpAny _ _ (if (n : Int) < 0 then _ else _) _ _ _
      rw [if_neg (by omega)]
      show wpAny _ _ (if (n : Int) ≥ 2 ^ 63 then _ else _) _ _ _
      rw [if_neg (by omega)]
      exact wpAny_bind (wpAny_mkInt (wpAny_pure ⟨_, rfl, .int n, H', I'.tok _, ⟨_, rfl⟩, hQ⟩))
end
structure LenD (P : Program) (w : World) (K : Frag) (mg : PySem.Str → Option Value) (base : Heap) (k : Nat) (C : Addr) (sp : DSp) : Prop where
  ex : ∃ f fd ps, Meth K C "__len__" f ∧ FnOk P w K mg base CX0 k f fd ps (spD K false sp) ∧ Binds K fd ps []
abbrev dLenO (C : Addr) (sp : DSp) (t : DE) : DE := fun s Q => t s fun d k => (∃ ns xs, d = .ins C ns xs) ∧ sp [d] 0 fun r _ => ∃ n : Nat, r = .int n ∧ n < 2 ^ 63 ∧ Q (.int n) k
section
variable {X : Cx} {c : C} {k j : Nat} {p pos : Pos} {e : Expr} {t : DE} {Cl : Addr} {sp : DSp}
theorem pd_lenO (hK : c.K = X.K) (hm : X.mg "len" = none) (L : LenD X.prog X.w X.K X.mg X.base k Cl sp) (hr : Room j X.A) (hk : k + 1 ≤ j) (he : PE X e (LE c t)) (hg : Gl X "len" := by rfl) (hs : starEach [e] X.env = (false, eval e X.env) :: starEach [] X.env := by rfl) (hpl : (backTo pos (starEach [] X.env)).any (·.1) = false := by rfl) :
    PE X (.Call (.Name "len" p) [e] [] pos) (LE c (dLenO Cl sp t)) := by
  obtain ⟨f, fd, ps, M, F, B⟩ := L.ex
  refine (pe_callB (call_lenO M F (hr.mono hk) B) hg hm PySem.boot_len (pa_cons he pa_nil hs) (he := hs) (hpl := hpl)).weak fun σ H Q ⟨s, R, rp, q, fn⟩ => ⟨s, _, rp, q, fun d k1 ⟨⟨ns, xs, hd⟩, hsp⟩ v H1 r1 a1 e1 => ?_⟩
  subst hd
  obtain ⟨a, dx, us, rfl, h1, l, r⟩ := e1.insE
  refine ⟨a, dx, _, rfl, wo_sub _ _ _ _ h1, ?_⟩
  refine ⟨none, Ml c.M ++ s.X, 0, _, _, _, ⟨rfl, rfl⟩, ⟨fun a _ => by simp [Ml], r1.allHid, trivial, hK ▸ RlA.cons e1 .nil, r1.allTb⟩, hsp, fun d k' ⟨n, hd, hn, hR⟩ v H' af er => ?_⟩
  subst hd
  cases er.intE
  have z := Rep.after (s := s.at k1) r1 ⟨af.sub, af.old, af.m, af.tb⟩
  exact ⟨n, rfl, hn, fn _ k1 hR _ H' z.1 (a1.trans z.2) (.int _)⟩
end
def spI (K : Frag) (C : Addr) (sp : DSp) : Sp := fun vs H Q _ => ∃ (X0 : List Addr) (x dx : Addr) (ds : List D) (ws : List V) (R : D → Nat → Prop), vs = .ref x :: ws ∧ H x = some (.ins C dx []) ∧ H dx = some (.own x) ∧ dx ≠ x ∧ (∀ a ∈ X0, H a ≠ none) ∧ (∀ a ∈ X0, ∀ ps, H a ≠ some (.tbl ps)) ∧ x ∉ X0 ∧ dx ∉ X0 ∧
  RlA K (wo H (x :: X0)) ws ds ∧ sp ds 0 R ∧ ∀ d k', R d k' → ∀ H', Sub (wo H (x :: X0)) (wo H' X0) → (∀ a ∈ X0, H' a = H a) → TbK H H' → Rl K (wo H' X0) (.ref x) d → Q .non H'
structure MakD (P : Program) (w : World) (K : Frag) (mg : PySem.Str → Option Value) (base : Heap) (k : Nat) (x : PySem.Str) (C : Addr) (sp : DSp) : Prop where
  ex : ∃ f fd ps, Mk K C f ∧ FnOk P w K mg base CX0 k f fd ps (spI K C sp) ∧ mg x = some (.ref C) ∧ Binds K fd ps []
section
variable {X : Cx} {c : C} {k j : Nat} {p pos : Pos} {e : Expr} {es : List Expr} {t : DA} {Cl : Addr} {x : PySem.Str} {sp : DSp}
theorem pd_make (hK : c.K = X.K) (F : MakD X.prog X.w X.K X.mg X.base k x Cl sp) (hr : Room j X.A) (hk : k + 1 ≤ j) (ha : PA X (e :: es) (LA c t)) (hg : Gl X x := by rfl) (hdb : (x == ("__debug__" : PySem.Str)) = false := by decide) (he : starEach (e :: es) X.env = (false, eval e X.env) :: starEach es X.env := by rfl) (hpl : (backTo pos (starEach es X.env)).any (·.1) = false := by rfl) :
    PE X (.Call (.Name x p) (e :: es) [] pos) (LE c (dCall sp t)) := by
  obtain ⟨f, fd, ps, M, G, hm, b⟩ := F.ex
  refine (pe_make M G (hr.mono hk) hg hm b .nil pass0 ha hdb he hpl).weak fun σ H Q ⟨s, R, rp, q, fn⟩ => ⟨s, _, rp, q, fun ds k1 h1 vs H1 r1 a1 e1 y dx hy hd ne => ?_⟩
  have al := r1.allHid
  have ny : y ∉ Ml c.M ++ s.X := fun z => al y z hy
  have nd : dx ∉ Ml c.M ++ s.X := fun z => al dx z hd
  have sb : Sub (wo H1 (Ml c.M ++ s.X)) (wo (upd (upd H1 dx (.own y)) y (.ins Cl dx [])) (y :: (Ml c.M ++ s.X))) := fun a o h => by
    obtain ⟨n, h⟩ := wo_ne h
    have n1 : a ≠ y := fun z => by rw [z, hy] at h; cases h
    have n2 : a ≠ dx := fun z => by rw [z, hd] at h; cases h
    exact wo_of (fun z => (List.mem_cons.mp z).elim n1 n) (by rw [upd_ne n1, upd_ne n2]; exact h)
  have od : ∀ a ∈ Ml c.M ++ s.X, (upd (upd H1 dx (.own y)) y (.ins Cl dx [])) a = H1 a := fun a h => by
    rw [upd_ne (fun z => ny (by rw [← z]; exact h)), upd_ne (fun z => nd (by rw [← z]; exact h))]
  refine ⟨Ml c.M ++ s.X, y, dx, ds, vs, _, by rw [List.append_nil], upd_same, by rw [upd_ne ne]; exact upd_same, ne, fun a h => by rw [od a h]; exact al a h, fun a h => by rw [od a h]; exact r1.allTb a h, ny, nd, (hK ▸ e1 : RlA X.K _ vs ds).mono sb, h1, fun d k' hR H' s2 o2 tb er => ⟨rfl, ?_⟩⟩
  have z := Rep.after (s := s.at k1) r1 (H' := H') (k := 0) ⟨sb.trans s2, fun a h => (o2 a h).trans (od a h), trivial, (TbK.new hd).trans ((TbK.new (by rw [upd_ne ne.symm]; exact hy)).trans tb)⟩
  exact fn d k1 hR _ H' z.1 (a1.trans z.2) (hK ▸ er)
end
end DL
namespace DL
open PySem L2
open PySem.W (Frag)
end DL
namespace BW
open PySem L2 DL
abbrev Mat := List (List Int)
abbrev tI (xs : List Int) : D := .tup (xs.map .int)
abbrev lI (xs : List Int) : D := .lst (xs.map .int)
abbrev lM (T : Mat) : D := .lst (T.map lI)
abbrev tM (T : Mat) : D := .tup (T.map tI)
def at2 (T : Mat) (i j : Nat) : Int := (T.getD i []).getD j 0
def wts (k : Int) : Int × Int := if k = 2 then (0, 0) else if k = 3 then (1, 1) else if k = 4 then (1, 2) else if k = 6 then (1, 3) else (2, 2)
def wt (T : Mat) (i j : Nat) : Int := if i = j then -2 else if i < j then (wts (at2 T i j)).1 else (wts (at2 T i j)).2
structure Tab (T : Mat) : Prop where
  lo : 1 ≤ T.length
  hi : T.length ≤ 6
  sq : ∀ i, i < T.length → (T.getD i []).length = T.length
  dg : ∀ i, i < T.length → at2 T i i = 1
  of : ∀ i j, i < T.length → j < T.length → i ≠ j → at2 T i j = 2 ∨ at2 T i j = 3 ∨ at2 T i j = 4 ∨ at2 T i j = 6 ∨ at2 T i j = 0
  sy : ∀ i j, i < T.length → j < T.length → at2 T i j = at2 T j i
def press (T : Mat) (row : List Int) (i : Nat) : List Int := (List.range T.length).map fun j => row.getD j 0 + wt T i j * row.getD i 0
def wtr (T : Mat) (i : Nat) : List Int := (List.range T.length).map (wt T i)
def wtM (T : Mat) : Mat := (List.range T.length).map (wtr T)
abbrev bnd (BC : Addr) (T : Mat) : D := .ins BC ["table", "weights"] [tM T, tM (wtM T)]
abbrev ix (a : Int) : Nat := (a - 1).toNat
def Wd (n : Nat) (w : List Int) : Prop := ∀ a ∈ w, 1 ≤ a ∧ a ≤ n
def one (T : Mat) : List Int := List.replicate T.length 1
def row (T : Mat) (w : List Int) : List Int := w.foldl (fun r a => press T r (ix a)) (one T)
def fall (r : List Int) : List Int := ((List.range r.length).filter fun i => decide (r.getD i 0 < 0)).map fun (i : Nat) => (i : Int) + 1
def wd (T : Mat) : Nat → List Int → List Int × List Int
  | 0, r => ([], r)
  | n + 1, r => match fall r with
    | [] => ([], r)
    | a :: _ => (a :: (wd T n (press T r (ix a))).1, (wd T n (press T r (ix a))).2)
def D.isI : D → Bool
  | .int _ => true
  | _ => false
def D.isL (n : Int) : D → Bool
  | .int a => decide (1 ≤ a) && decide (a ≤ n)
  | _ => false
def sp_is_whole : DSp := fun ds k R => ∃ d, ds = [d] ∧ d.tname.isSome = true ∧ R (.bl (D.isI d)) k
def sp_can_stand : DSp := fun ds k R => ∃ T a b, ds = [lM T, .int a, .int b] ∧ Tab T ∧ 1 ≤ a ∧ a ≤ T.length ∧ 1 ≤ b ∧ b ≤ T.length ∧ R (.bl true) k
def sp_check_shape : DSp := fun ds k R => ∃ T, ds = [lM T] ∧ Tab T ∧ R .non k
def sp_check_table : DSp := fun ds k R => ∃ T, ds = [lM T] ∧ Tab T ∧ R .non k
def sp_weight_of : DSp := fun ds k R => ∃ T a b, ds = [tM T, .int a, .int b] ∧ Tab T ∧ 1 ≤ a ∧ a ≤ T.length ∧ 1 ≤ b ∧ b ≤ T.length ∧ R (.int (wt T (ix a) (ix b))) k
def sp_weights_from : DSp := fun ds k R => ∃ T a, ds = [tM T, .int a] ∧ Tab T ∧ 1 ≤ a ∧ a ≤ T.length ∧ R (tI (wtr T (ix a))) k
def sp_Bonds (BC : Addr) : DSp := fun ds k R => ∃ T, ds = [lM T] ∧ Tab T ∧ R (bnd BC T) k
def sp_len_Bonds (BC : Addr) : DSp := fun ds k R => ∃ T, ds = [bnd BC T] ∧ T.length ≤ 6 ∧ R (.int T.length) k
def isW (d : D) (w : List Int) : Prop := d = lI w ∨ d = tI w
def sp_first_row (BC : Addr) : DSp := fun ds k R => ∃ T, ds = [bnd BC T] ∧ Tab T ∧ R (tI (one T)) k
def sp_pressed (BC : Addr) : DSp := fun ds k R => ∃ T r a, ds = [bnd BC T, tI r, .int a] ∧ Tab T ∧ r.length = T.length ∧ 1 ≤ a ∧ a ≤ T.length ∧ R (tI (press T r (ix a))) k
def sp__law_mixed : DSp := fun ds k R => ∃ a n : Int, ds = [.int a, .int n] ∧ 0 ≤ a ∧ a < 1000000000000000 ∧ 0 ≤ n ∧ n < 1000000000000 ∧ ∀ r, 0 ≤ r → r < 306783377 → R (.int r) k
def sp__law_draw : DSp := fun ds k R => ∃ z : Int, ds = [.int z] ∧ 0 < z ∧ z < 2 ^ 200 ∧ k < 100000000000 ∧ ∀ d, 0 ≤ d → d < z → R (.int d) (k + 1)
def alt (a b : Int) (n : Nat) : List Int := (List.range n).map fun i => if i % 2 = 0 then a else b
end BW
namespace TT
def sm (f : Nat → Int) : Nat → Int
  | 0 => 0
  | n + 1 => sm f n + f n
theorem sm_congr {f g : Nat → Int} : ∀ {n : Nat}, (∀ j, j < n → f j = g j) → sm f n = sm g n
  | 0, _ => rfl
  | n + 1, h => by
    show sm f n + f n = sm g n + g n
    rw [sm_congr (fun j hj => h j (Nat.lt_succ_of_lt hj)), h n (Nat.lt_succ_self n)]
theorem sm_add {f g : Nat → Int} : ∀ {n : Nat}, sm (fun j => f j + g j) n = sm f n + sm g n
  | 0 => rfl
  | n + 1 => by
    show sm (fun j => f j + g j) n + (f n + g n) = (sm f n + f n) + (sm g n + g n)
    rw [sm_add]; omega
theorem sm_mul {f : Nat → Int} {c : Int} : ∀ {n : Nat}, sm (fun j => c * f j) n = c * sm f n
  | 0 => (Int.mul_zero c).symm
  | n + 1 => by
    show sm (fun j => c * f j) n + c * f n = c * (sm f n + f n)
    rw [sm_mul, Int.mul_add]
theorem sm_zero {f : Nat → Int} : ∀ {n : Nat}, (∀ j, j < n → f j = 0) → sm f n = 0
  | 0, _ => rfl
  | n + 1, h => by
    show sm f n + f n = 0
    rw [sm_zero (fun j hj => h j (Nat.lt_succ_of_lt hj)), h n (Nat.lt_succ_self n)]; rfl
theorem sm_one {f : Nat → Int} {b : Nat} : ∀ {n : Nat}, b < n → (∀ j, j < n → j ≠ b → f j = 0) → sm f n = f b
  | 0, h, _ => absurd h (Nat.not_lt_zero b)
  | n + 1, h, z => by
    show sm f n + f n = f b
    by_cases e : b = n
    · subst e
      rw [sm_zero (fun j hj => z j (Nat.lt_succ_of_lt hj) (Nat.ne_of_lt hj)), Int.zero_add]
    · rw [sm_one (by omega) (fun j hj => z j (Nat.lt_succ_of_lt hj)), z n (Nat.lt_succ_self n) (fun q => e q.symm), Int.add_zero]
theorem sm_nn {f : Nat → Int} : ∀ {n : Nat}, (∀ j, j < n → 0 ≤ f j) → 0 ≤ sm f n
  | 0, _ => Int.le_refl 0
  | n + 1, h => by
    show 0 ≤ sm f n + f n
    have := sm_nn (fun j hj => h j (Nat.lt_succ_of_lt hj)) (n := n)
    have := h n (Nat.lt_succ_self n)
    omega
abbrev Vec := Nat → Int
structure Car (n : Nat) (W : Nat → Nat → Int) : Prop where
  dg : ∀ i, i < n → W i i = -2
  of : ∀ i j, i < n → j < n → i ≠ j → (W i j = 0 ∧ W j i = 0) ∨ (W i j = 1 ∧ W j i = 1) ∨ (W i j = 1 ∧ W j i = 2) ∨ (W i j = 2 ∧ W j i = 1) ∨ (W i j = 1 ∧ W j i = 3) ∨ (W i j = 3 ∧ W j i = 1) ∨ (W i j = 2 ∧ W j i = 2)
def eb (a : Nat) : Vec := fun j => if j = a then 1 else 0
def mv (x : Vec) (t : Int) (b : Nat) : Vec := fun j => if j = b then x j + t else x j
def pr (n : Nat) (W : Nat → Nat → Int) (b : Nat) (x : Vec) : Int := sm (fun a => W b a * x a) n
def sg (n : Nat) (W : Nat → Nat → Int) (b : Nat) (x : Vec) : Vec := mv x (pr n W b x) b
theorem mv_dif {x : Vec} {t : Int} {b j : Nat} : mv x t b j = x j + t * eb b j := by
  unfold mv eb
  by_cases h : j = b
  · rw [if_pos h, if_pos h, Int.mul_one]
  · rw [if_neg h, if_neg h, Int.mul_zero, Int.add_zero]
theorem sm_eb {f : Nat → Int} {b n : Nat} (h : b < n) : sm (fun j => f j * eb b j) n = f b := by
  rw [sm_one h (fun j _ e => by unfold eb; rw [if_neg e, Int.mul_zero])]
  unfold eb
  rw [if_pos rfl, Int.mul_one]
section
variable {n : Nat} {W : Nat → Nat → Int}
theorem pr_mv {c b : Nat} {x : Vec} {t : Int} (hb : b < n) : pr n W c (mv x t b) = pr n W c x + W c b * t := by
  unfold pr
  rw [sm_congr (g := fun a => W c a * x a + t * (W c a * eb b a)) (fun j _ => by rw [mv_dif, Int.mul_add, Int.mul_left_comm]), sm_add, sm_mul, sm_eb hb, Int.mul_comm t]
theorem sm_mv {b : Nat} {x : Vec} {t : Int} (hb : b < n) : sm (mv x t b) n = sm x n + t := by
  rw [sm_congr (g := fun a => x a + t * (1 * eb b a)) (fun j _ => by rw [mv_dif, Int.one_mul]), sm_add, sm_mul, sm_eb (f := fun _ => 1) hb, Int.mul_one]
theorem pr_eb {a b : Nat} (ha : a < n) : pr n W b (eb a) = W b a := sm_eb ha
theorem mv_mv {x : Vec} {s t : Int} {b : Nat} : mv (mv x s b) t b = mv x (s + t) b := by
  funext j
  unfold mv
  by_cases h : j = b
  · rw [if_pos h, if_pos h, if_pos h, Int.add_assoc]
  · rw [if_neg h, if_neg h, if_neg h]
theorem mv_zero {x : Vec} {b : Nat} : mv x 0 b = x := by
  funext j
  unfold mv
  by_cases h : j = b
  · rw [if_pos h, Int.add_zero]
  · rw [if_neg h]
theorem mv_comm {x : Vec} {s t : Int} {b c : Nat} (h : b ≠ c) : mv (mv x s b) t c = mv (mv x t c) s b := by
  funext j
  unfold mv
  by_cases h1 : j = b
  · subst h1
    rw [if_neg h, if_pos rfl, if_pos rfl, if_neg h]
  · by_cases h2 : j = c
    · subst h2
      rw [if_pos rfl, if_neg h1, if_neg h1, if_pos rfl]
    · rw [if_neg h2, if_neg h1, if_neg h1, if_neg h2]
theorem sg_sg (C : Car n W) {b : Nat} {x : Vec} (hb : b < n) : sg n W b (sg n W b x) = x := by
  unfold sg
  rw [pr_mv hb, C.dg b hb, mv_mv]
  rw [show pr n W b x + (pr n W b x + -2 * pr n W b x) = 0 by omega, mv_zero]
theorem pr_sg (C : Car n W) {b : Nat} {x : Vec} (hb : b < n) : pr n W b (sg n W b x) = - pr n W b x := by
  unfold sg
  rw [pr_mv hb, C.dg b hb]
  omega
inductive Pos (n : Nat) (W : Nat → Nat → Int) : Vec → Prop
  | eb {a : Nat} : a < n → Pos n W (eb a)
  | up {x : Vec} {b : Nat} : Pos n W x → b < n → 0 < pr n W b x → Pos n W (sg n W b x)
theorem Pos.nn {x : Vec} (h : Pos n W x) : ∀ j, 0 ≤ x j := by
  induction h with
  | eb ha => intro j; unfold TT.eb; split <;> decide
  | up h hb hp ih =>
    intro j
    have := ih j
    unfold sg mv
    split <;> omega
theorem Pos.ht {x : Vec} (h : Pos n W x) : 1 ≤ sm x n := by
  induction h with
  | eb ha =>
    rename_i a
    have : sm (TT.eb a) n = 1 := by
      have := sm_eb (f := fun _ => (1 : Int)) ha
      simpa using this
    omega
  | up h hb hp ih =>
    unfold sg
    rw [sm_mv hb]
    omega
end
theorem r2_00 {A Eb : Int → Int → Prop} {P Q : Int} (hP : P < 0) (hQ : Q < 0) (R1 : ∀ s t s', A s t → s + t < 0 → P - 2 * s + 0 * t < 0 → s' = s + (P - 2 * s + 0 * t) → (P - 2 * s + 0 * t = -2 ∧ Q + 0 * s - 2 * t = 0 ∧ Eb s t) ∨ A s' t)
    (R2 : ∀ s t t', A s t → s + t < 0 → Q + 0 * s - 2 * t < 0 → t' = t + (Q + 0 * s - 2 * t) → (Q + 0 * s - 2 * t = -2 ∧ P - 2 * s + 0 * t = 0) ∨ A s t') (U1 : ∀ s t s', A s t → 0 < P - 2 * s + 0 * t → s' = s + (P - 2 * s + 0 * t) → A s' t) (U2 : ∀ s t t', A s t → 0 < Q + 0 * s - 2 * t → t' = t + (Q + 0 * s - 2 * t) → A s t') (A0 : A 0 Q) : A P 0 := by
  have h0 : A (0 * P + 0 * Q) (0 * P + 1 * Q) := by rw [show (0 * P + 0 * Q) = (0 : Int) by omega, show (0 * P + 1 * Q) = Q by omega]; exact A0
  rcases R1 (0 * P + 0 * Q) (0 * P + 1 * Q) (1 * P + 0 * Q) h0 (by omega) (by omega) (by omega) with ⟨_, _, _⟩ | h1
  · omega
  have h2 := U2 (1 * P + 0 * Q) (0 * P + 1 * Q) (0 * P + 0 * Q) h1 (by omega) (by omega)
  rw [show (1 * P + 0 * Q) = P by omega, show (0 * P + 0 * Q) = (0 : Int) by omega] at h2
  exact h2
theorem r2_11 {A Eb : Int → Int → Prop} {P Q : Int} (hP : P < 0) (hQ : Q < 0) (R1 : ∀ s t s', A s t → s + t < 0 → P - 2 * s + 1 * t < 0 → s' = s + (P - 2 * s + 1 * t) → (P - 2 * s + 1 * t = -2 ∧ Q + 1 * s - 2 * t = 1 ∧ Eb s t) ∨ A s' t)
    (R2 : ∀ s t t', A s t → s + t < 0 → Q + 1 * s - 2 * t < 0 → t' = t + (Q + 1 * s - 2 * t) → (Q + 1 * s - 2 * t = -2 ∧ P - 2 * s + 1 * t = 1) ∨ A s t') (U1 : ∀ s t s', A s t → 0 < P - 2 * s + 1 * t → s' = s + (P - 2 * s + 1 * t) → A s' t) (U2 : ∀ s t t', A s t → 0 < Q + 1 * s - 2 * t → t' = t + (Q + 1 * s - 2 * t) → A s t') (A0 : A 0 Q) (X : Eb 0 Q → A P 0) : A P 0 := by
  have h0 : A (0 * P + 0 * Q) (0 * P + 1 * Q) := by rw [show (0 * P + 0 * Q) = (0 : Int) by omega, show (0 * P + 1 * Q) = Q by omega]; exact A0
  rcases R1 (0 * P + 0 * Q) (0 * P + 1 * Q) (1 * P + 1 * Q) h0 (by omega) (by omega) (by omega) with ⟨_, _, e⟩ | h1
  · rw [show (0 * P + 0 * Q) = (0 : Int) by omega, show (0 * P + 1 * Q) = Q by omega] at e; exact X e
  rcases R2 (1 * P + 1 * Q) (0 * P + 1 * Q) (1 * P + 1 * Q) h1 (by omega) (by omega) (by omega) with ⟨_, _⟩ | h2
  · omega
  have h3 := U1 (1 * P + 1 * Q) (1 * P + 1 * Q) (1 * P + 0 * Q) h2 (by omega) (by omega)
  have h4 := U2 (1 * P + 0 * Q) (1 * P + 1 * Q) (0 * P + 0 * Q) h3 (by omega) (by omega)
  rw [show (1 * P + 0 * Q) = P by omega, show (0 * P + 0 * Q) = (0 : Int) by omega] at h4
  exact h4
theorem r2_12 {A Eb : Int → Int → Prop} {P Q : Int} (hP : P < 0) (hQ : Q < 0) (R1 : ∀ s t s', A s t → s + t < 0 → P - 2 * s + 1 * t < 0 → s' = s + (P - 2 * s + 1 * t) → (P - 2 * s + 1 * t = -2 ∧ Q + 2 * s - 2 * t = 2 ∧ Eb s t) ∨ A s' t)
    (R2 : ∀ s t t', A s t → s + t < 0 → Q + 2 * s - 2 * t < 0 → t' = t + (Q + 2 * s - 2 * t) → (Q + 2 * s - 2 * t = -2 ∧ P - 2 * s + 1 * t = 1) ∨ A s t') (U1 : ∀ s t s', A s t → 0 < P - 2 * s + 1 * t → s' = s + (P - 2 * s + 1 * t) → A s' t) (U2 : ∀ s t t', A s t → 0 < Q + 2 * s - 2 * t → t' = t + (Q + 2 * s - 2 * t) → A s t') (A0 : A 0 Q) : A P 0 := by
  have h0 : A (0 * P + 0 * Q) (0 * P + 1 * Q) := by rw [show (0 * P + 0 * Q) = (0 : Int) by omega, show (0 * P + 1 * Q) = Q by omega]; exact A0
  rcases R1 (0 * P + 0 * Q) (0 * P + 1 * Q) (1 * P + 1 * Q) h0 (by omega) (by omega) (by omega) with ⟨_, _, _⟩ | h1
  · omega
  rcases R2 (1 * P + 1 * Q) (0 * P + 1 * Q) (2 * P + 2 * Q) h1 (by omega) (by omega) (by omega) with ⟨_, _⟩ | h2
  · omega
  rcases R1 (1 * P + 1 * Q) (2 * P + 2 * Q) (2 * P + 1 * Q) h2 (by omega) (by omega) (by omega) with ⟨_, _, _⟩ | h3
  · omega
  have h4 := U2 (2 * P + 1 * Q) (2 * P + 2 * Q) (2 * P + 1 * Q) h3 (by omega) (by omega)
  have h5 := U1 (2 * P + 1 * Q) (2 * P + 1 * Q) (1 * P + 0 * Q) h4 (by omega) (by omega)
  have h6 := U2 (1 * P + 0 * Q) (2 * P + 1 * Q) (0 * P + 0 * Q) h5 (by omega) (by omega)
  rw [show (1 * P + 0 * Q) = P by omega, show (0 * P + 0 * Q) = (0 : Int) by omega] at h6
  exact h6
theorem r2_21 {A Eb : Int → Int → Prop} {P Q : Int} (hP : P < 0) (hQ : Q < 0) (R1 : ∀ s t s', A s t → s + t < 0 → P - 2 * s + 2 * t < 0 → s' = s + (P - 2 * s + 2 * t) → (P - 2 * s + 2 * t = -2 ∧ Q + 1 * s - 2 * t = 1 ∧ Eb s t) ∨ A s' t)
    (R2 : ∀ s t t', A s t → s + t < 0 → Q + 1 * s - 2 * t < 0 → t' = t + (Q + 1 * s - 2 * t) → (Q + 1 * s - 2 * t = -2 ∧ P - 2 * s + 2 * t = 2) ∨ A s t') (U1 : ∀ s t s', A s t → 0 < P - 2 * s + 2 * t → s' = s + (P - 2 * s + 2 * t) → A s' t) (U2 : ∀ s t t', A s t → 0 < Q + 1 * s - 2 * t → t' = t + (Q + 1 * s - 2 * t) → A s t') (A0 : A 0 Q) : A P 0 := by
  have h0 : A (0 * P + 0 * Q) (0 * P + 1 * Q) := by rw [show (0 * P + 0 * Q) = (0 : Int) by omega, show (0 * P + 1 * Q) = Q by omega]; exact A0
  rcases R1 (0 * P + 0 * Q) (0 * P + 1 * Q) (1 * P + 2 * Q) h0 (by omega) (by omega) (by omega) with ⟨_, _, _⟩ | h1
  · omega
  rcases R2 (1 * P + 2 * Q) (0 * P + 1 * Q) (1 * P + 2 * Q) h1 (by omega) (by omega) (by omega) with ⟨_, _⟩ | h2
  · omega
  rcases R1 (1 * P + 2 * Q) (1 * P + 2 * Q) (2 * P + 2 * Q) h2 (by omega) (by omega) (by omega) with ⟨_, _, _⟩ | h3
  · omega
  have h4 := U2 (2 * P + 2 * Q) (1 * P + 2 * Q) (1 * P + 1 * Q) h3 (by omega) (by omega)
  have h5 := U1 (2 * P + 2 * Q) (1 * P + 1 * Q) (1 * P + 0 * Q) h4 (by omega) (by omega)
  have h6 := U2 (1 * P + 0 * Q) (1 * P + 1 * Q) (0 * P + 0 * Q) h5 (by omega) (by omega)
  rw [show (1 * P + 0 * Q) = P by omega, show (0 * P + 0 * Q) = (0 : Int) by omega] at h6
  exact h6
theorem r2_13 {A Eb : Int → Int → Prop} {P Q : Int} (hP : P < 0) (hQ : Q < 0) (R1 : ∀ s t s', A s t → s + t < 0 → P - 2 * s + 1 * t < 0 → s' = s + (P - 2 * s + 1 * t) → (P - 2 * s + 1 * t = -2 ∧ Q + 3 * s - 2 * t = 3 ∧ Eb s t) ∨ A s' t)
    (R2 : ∀ s t t', A s t → s + t < 0 → Q + 3 * s - 2 * t < 0 → t' = t + (Q + 3 * s - 2 * t) → (Q + 3 * s - 2 * t = -2 ∧ P - 2 * s + 1 * t = 1) ∨ A s t') (U1 : ∀ s t s', A s t → 0 < P - 2 * s + 1 * t → s' = s + (P - 2 * s + 1 * t) → A s' t) (U2 : ∀ s t t', A s t → 0 < Q + 3 * s - 2 * t → t' = t + (Q + 3 * s - 2 * t) → A s t') (A0 : A 0 Q) : A P 0 := by
  have h0 : A (0 * P + 0 * Q) (0 * P + 1 * Q) := by rw [show (0 * P + 0 * Q) = (0 : Int) by omega, show (0 * P + 1 * Q) = Q by omega]; exact A0
  rcases R1 (0 * P + 0 * Q) (0 * P + 1 * Q) (1 * P + 1 * Q) h0 (by omega) (by omega) (by omega) with ⟨_, _, _⟩ | h1
  · omega
  rcases R2 (1 * P + 1 * Q) (0 * P + 1 * Q) (3 * P + 3 * Q) h1 (by omega) (by omega) (by omega) with ⟨_, _⟩ | h2
  · omega
  rcases R1 (1 * P + 1 * Q) (3 * P + 3 * Q) (3 * P + 2 * Q) h2 (by omega) (by omega) (by omega) with ⟨_, _, _⟩ | h3
  · omega
  rcases R2 (3 * P + 2 * Q) (3 * P + 3 * Q) (6 * P + 4 * Q) h3 (by omega) (by omega) (by omega) with ⟨_, _⟩ | h4
  · omega
  rcases R1 (3 * P + 2 * Q) (6 * P + 4 * Q) (4 * P + 2 * Q) h4 (by omega) (by omega) (by omega) with ⟨_, _, _⟩ | h5
  · omega
  have h6 := U2 (4 * P + 2 * Q) (6 * P + 4 * Q) (6 * P + 3 * Q) h5 (by omega) (by omega)
  have h7 := U1 (4 * P + 2 * Q) (6 * P + 3 * Q) (3 * P + 1 * Q) h6 (by omega) (by omega)
  have h8 := U2 (3 * P + 1 * Q) (6 * P + 3 * Q) (3 * P + 1 * Q) h7 (by omega) (by omega)
  have h9 := U1 (3 * P + 1 * Q) (3 * P + 1 * Q) (1 * P + 0 * Q) h8 (by omega) (by omega)
  have h10 := U2 (1 * P + 0 * Q) (3 * P + 1 * Q) (0 * P + 0 * Q) h9 (by omega) (by omega)
  rw [show (1 * P + 0 * Q) = P by omega, show (0 * P + 0 * Q) = (0 : Int) by omega] at h10
  exact h10
theorem r2_31 {A Eb : Int → Int → Prop} {P Q : Int} (hP : P < 0) (hQ : Q < 0) (R1 : ∀ s t s', A s t → s + t < 0 → P - 2 * s + 3 * t < 0 → s' = s + (P - 2 * s + 3 * t) → (P - 2 * s + 3 * t = -2 ∧ Q + 1 * s - 2 * t = 1 ∧ Eb s t) ∨ A s' t)
    (R2 : ∀ s t t', A s t → s + t < 0 → Q + 1 * s - 2 * t < 0 → t' = t + (Q + 1 * s - 2 * t) → (Q + 1 * s - 2 * t = -2 ∧ P - 2 * s + 3 * t = 3) ∨ A s t') (U1 : ∀ s t s', A s t → 0 < P - 2 * s + 3 * t → s' = s + (P - 2 * s + 3 * t) → A s' t) (U2 : ∀ s t t', A s t → 0 < Q + 1 * s - 2 * t → t' = t + (Q + 1 * s - 2 * t) → A s t') (A0 : A 0 Q) : A P 0 := by
  have h0 : A (0 * P + 0 * Q) (0 * P + 1 * Q) := by rw [show (0 * P + 0 * Q) = (0 : Int) by omega, show (0 * P + 1 * Q) = Q by omega]; exact A0
  rcases R1 (0 * P + 0 * Q) (0 * P + 1 * Q) (1 * P + 3 * Q) h0 (by omega) (by omega) (by omega) with ⟨_, _, _⟩ | h1
  · omega
  rcases R2 (1 * P + 3 * Q) (0 * P + 1 * Q) (1 * P + 3 * Q) h1 (by omega) (by omega) (by omega) with ⟨_, _⟩ | h2
  · omega
  rcases R1 (1 * P + 3 * Q) (1 * P + 3 * Q) (3 * P + 6 * Q) h2 (by omega) (by omega) (by omega) with ⟨_, _, _⟩ | h3
  · omega
  rcases R2 (3 * P + 6 * Q) (1 * P + 3 * Q) (2 * P + 4 * Q) h3 (by omega) (by omega) (by omega) with ⟨_, _⟩ | h4
  · omega
  rcases R1 (3 * P + 6 * Q) (2 * P + 4 * Q) (4 * P + 6 * Q) h4 (by omega) (by omega) (by omega) with ⟨_, _, _⟩ | h5
  · omega
  have h6 := U2 (4 * P + 6 * Q) (2 * P + 4 * Q) (2 * P + 3 * Q) h5 (by omega) (by omega)
  have h7 := U1 (4 * P + 6 * Q) (2 * P + 3 * Q) (3 * P + 3 * Q) h6 (by omega) (by omega)
  have h8 := U2 (3 * P + 3 * Q) (2 * P + 3 * Q) (1 * P + 1 * Q) h7 (by omega) (by omega)
  have h9 := U1 (3 * P + 3 * Q) (1 * P + 1 * Q) (1 * P + 0 * Q) h8 (by omega) (by omega)
  have h10 := U2 (1 * P + 0 * Q) (1 * P + 1 * Q) (0 * P + 0 * Q) h9 (by omega) (by omega)
  rw [show (1 * P + 0 * Q) = P by omega, show (0 * P + 0 * Q) = (0 : Int) by omega] at h10
  exact h10
section
variable {n : Nat} {W : Nat → Nat → Int}
theorem W_nn (C : Car n W) {a b : Nat} (ha : a < n) (hb : b < n) (h : a ≠ b) : 0 ≤ W a b := by
  rcases C.of a b ha hb h with h | h | h | h | h | h | h <;> omega
theorem no_inf (C : Car n W) {b c : Nat} (hb : b < n) (hc : c < n) (hbc : W b c = 2) (hcb : W c b = 2) {N : Nat} (IH : ∀ x, Pos n W x → sm x n < N → ∀ b, b < n → x = eb b ∨ Pos n W (sg n W b x)) :
    ∀ (k : Nat) (z : Vec), Pos n W z → sm z n < N → sm z n < k → pr n W b z + pr n W c z < 0 → False
  | 0, z, hz, _, hk, _ => by have := hz.ht; omega
  | k + 1, z, hz, hN, hk, hs => by
    by_cases h : pr n W b z < 0
    · rcases IH z hz hN b hb with e | h2
      · rw [e, pr_eb hb, pr_eb hb, C.dg b hb, hcb] at hs
        omega
      · refine no_inf C hb hc hbc hcb IH k _ h2 ?_ ?_ ?_
        · unfold sg; rw [sm_mv hb]; omega
        · unfold sg; rw [sm_mv hb]; omega
        · rw [pr_sg C hb]
          unfold sg
          rw [pr_mv hb, hcb]
          omega
    · have h : pr n W c z < 0 := by omega
      rcases IH z hz hN c hc with e | h2
      · rw [e, pr_eb hc, pr_eb hc, C.dg c hc, hbc] at hs
        omega
      · refine no_inf C hb hc hbc hcb IH k _ h2 ?_ ?_ ?_
        · unfold sg; rw [sm_mv hc]; omega
        · unfold sg; rw [sm_mv hc]; omega
        · rw [pr_sg C hc]
          unfold sg
          rw [pr_mv hc, hbc]
          omega
abbrev VV (x : Vec) (b c : Nat) (s t : Int) : Vec := mv (mv x s b) t c
theorem pos_sg (C : Car n W) : ∀ (N : Nat) (x : Vec), Pos n W x → sm x n < N → ∀ b, b < n → x = eb b ∨ Pos n W (sg n W b x)
  | 0, x, hx, h, _, _ => by have := hx.ht; omega
  | N + 1, x, hx, hN, b, hb => by
    by_cases p1 : 0 < pr n W b x
    · exact .inr (.up hx hb p1)
    by_cases p2 : pr n W b x = 0
    · right
      unfold sg
      rw [p2, mv_zero]
      exact hx
    have hP : pr n W b x < 0 := by omega
    cases hx with
    | eb ha =>
      rename_i a
      rw [pr_eb ha] at hP
      by_cases e : b = a
      · exact .inl (by rw [e])
      · have := W_nn C hb ha e
        omega
    | up hy hc hq =>
      rename_i y c
      by_cases e : c = b
      · subst e
        right
        rw [sg_sg C hc]
        exact hy
      · have hx : Pos n W (sg n W c y) := .up hy hc hq
        have ey : y = sg n W c (sg n W c y) := (sg_sg C hc).symm
        have hQ : pr n W c (sg n W c y) < 0 := by rw [pr_sg C hc]; omega
        have hyx : sm y n < sm (sg n W c y) n := by unfold sg; rw [sm_mv hc]; omega
        rw [ey] at hy
        rw [ey] at hyx
        rw [sg_sg C hc] at hyx
        clear hq
        generalize hX : sg n W c y = x at *
        clear hX ey
        generalize hPP : pr n W b x = P at *
        generalize hQQ : pr n W c x = Q at *
        have IH := pos_sg C N
        right
        have nbc : b ≠ c := fun z => e z.symm
        have ne : c ≠ b := e
        have hV : ∀ s t, pr n W b (VV x b c s t) = P - 2 * s + W b c * t := fun s t => by
          rw [pr_mv hc, pr_mv hb, C.dg b hb, hPP]; omega
        have hW : ∀ s t, pr n W c (VV x b c s t) = Q + W c b * s - 2 * t := fun s t => by
          rw [pr_mv hc, pr_mv hb, C.dg c hc, hQQ]; omega
        have hS : ∀ s t, sm (VV x b c s t) n = sm x n + s + t := fun s t => by rw [sm_mv hc, sm_mv hb]
        have hB : ∀ s t, sg n W b (VV x b c s t) = VV x b c (s + (P - 2 * s + W b c * t)) t := fun s t => by
          unfold sg
          rw [hV, mv_comm ne, mv_mv]
        have hC : ∀ s t, sg n W c (VV x b c s t) = VV x b c s (t + (Q + W c b * s - 2 * t)) := fun s t => by
          unfold sg
          rw [hW, mv_mv]
        have e0 : sg n W c x = VV x b c 0 Q := by
          show mv x _ c = mv (mv x 0 b) Q c
          rw [mv_zero, hQQ]
        have e1 : sg n W b x = VV x b c P 0 := by
          show mv x _ b = mv (mv x P b) 0 c
          rw [mv_zero, hPP]
        rw [e0] at hy
        rw [e1]
        have R1 : ∀ s t s', Pos n W (VV x b c s t) → s + t < 0 → P - 2 * s + W b c * t < 0 → s' = s + (P - 2 * s + W b c * t) → (P - 2 * s + W b c * t = -2 ∧ Q + W c b * s - 2 * t = W c b ∧ VV x b c s t = eb b) ∨ Pos n W (VV x b c s' t) := fun s t s' h1 h2 h3 h4 => by
          rcases IH _ h1 (by rw [hS]; omega) b hb with h | h
          · left
            refine ⟨?_, ?_, h⟩
            · rw [← hV, h, pr_eb hb, C.dg b hb]
            · rw [← hW, h, pr_eb hb]
          · right
            rw [hB] at h
            rw [h4]
            exact h
        have R2 : ∀ s t t', Pos n W (VV x b c s t) → s + t < 0 → Q + W c b * s - 2 * t < 0 → t' = t + (Q + W c b * s - 2 * t) → (Q + W c b * s - 2 * t = -2 ∧ P - 2 * s + W b c * t = W b c) ∨ Pos n W (VV x b c s t') := fun s t t' h1 h2 h3 h4 => by
          rcases IH _ h1 (by rw [hS]; omega) c hc with h | h
          · left
            refine ⟨?_, ?_⟩
            · rw [← hW, h, pr_eb hc, C.dg c hc]
            · rw [← hV, h, pr_eb hc]
          · right
            rw [hC] at h
            rw [h4]
            exact h
        have U1 : ∀ s t s', Pos n W (VV x b c s t) → 0 < P - 2 * s + W b c * t → s' = s + (P - 2 * s + W b c * t) → Pos n W (VV x b c s' t) := fun s t s' h1 h2 h3 => by
          have := Pos.up h1 hb (by rw [hV]; exact h2)
          rw [hB] at this
          rw [h3]
          exact this
        have U2 : ∀ s t t', Pos n W (VV x b c s t) → 0 < Q + W c b * s - 2 * t → t' = t + (Q + W c b * s - 2 * t) → Pos n W (VV x b c s t') := fun s t t' h1 h2 h3 => by
          have := Pos.up h1 hc (by rw [hW]; exact h2)
          rw [hC] at this
          rw [h3]
          exact this
        rcases C.of b c hb hc nbc with ⟨u, v⟩ | ⟨u, v⟩ | ⟨u, v⟩ | ⟨u, v⟩ | ⟨u, v⟩ | ⟨u, v⟩ | ⟨u, v⟩
        · rw [u] at R1 R2 U1; rw [v] at R1 R2 U2; exact r2_00 (A := fun s t => Pos n W (VV x b c s t)) hP hQ R1 R2 U1 U2 hy
        · rw [u] at R1 R2 U1; rw [v] at R1 R2 U2
          refine r2_11 (A := fun s t => Pos n W (VV x b c s t)) hP hQ R1 R2 U1 U2 hy fun h => ?_
          have hv := hV 0 Q
          have hw := hW 0 Q
          rw [h, pr_eb hb, C.dg b hb, u] at hv
          rw [h, pr_eb hb, v] at hw
          have ec : VV x b c P 0 = eb c := by
            funext j
            have hj := congrFun h j
            unfold VV mv eb at hj
            unfold VV mv eb
            by_cases j1 : j = b
            · subst j1
              rw [if_neg nbc, if_pos rfl, if_pos rfl] at hj
              rw [if_neg nbc, if_pos rfl, if_neg nbc]
              omega
            · by_cases j2 : j = c
              · subst j2
                rw [if_pos rfl, if_neg ne, if_neg ne] at hj
                rw [if_pos rfl, if_neg ne, if_pos rfl]
                omega
              · rw [if_neg j2, if_neg j1, if_neg j1] at hj
                rw [if_neg j2, if_neg j1, if_neg j2]
                exact hj
          show Pos n W (VV x b c P 0)
          rw [ec]
          exact .eb hc
        · rw [u] at R1 R2 U1; rw [v] at R1 R2 U2; exact r2_12 (A := fun s t => Pos n W (VV x b c s t)) hP hQ R1 R2 U1 U2 hy
        · rw [u] at R1 R2 U1; rw [v] at R1 R2 U2; exact r2_21 (A := fun s t => Pos n W (VV x b c s t)) hP hQ R1 R2 U1 U2 hy
        · rw [u] at R1 R2 U1; rw [v] at R1 R2 U2; exact r2_13 (A := fun s t => Pos n W (VV x b c s t)) hP hQ R1 R2 U1 U2 hy
        · rw [u] at R1 R2 U1; rw [v] at R1 R2 U2; exact r2_31 (A := fun s t => Pos n W (VV x b c s t)) hP hQ R1 R2 U1 U2 hy
        · refine (no_inf C hb hc u v IH N _ hy ?_ ?_ ?_).elim
          · rw [hS]; omega
          · rw [hS]; omega
          · rw [hV, hW, u, v]; omega
end
end TT
namespace TT
def lc (x : Vec) (t : Int) (y : Vec) : Vec := fun j => x j + t * y j
def zv : Vec := fun _ => 0
def neg (x : Vec) : Vec := lc zv (-1) x
theorem neg_at {x : Vec} {j : Nat} : neg x j = - x j := by unfold neg lc zv; omega
theorem neg_neg {x : Vec} : neg (neg x) = x := by funext j; rw [neg_at, neg_at]; omega
theorem mv_lc {x : Vec} {t : Int} {b : Nat} : mv x t b = lc x t (eb b) := by funext j; exact mv_dif
section
variable {n : Nat} {W : Nat → Nat → Int}
theorem sm_lc {x y : Vec} {t : Int} : sm (lc x t y) n = sm x n + t * sm y n := by
  show sm (fun j => x j + t * y j) n = _
  rw [sm_add, sm_mul]
theorem pr_lc {b : Nat} {x y : Vec} {t : Int} : pr n W b (lc x t y) = pr n W b x + t * pr n W b y := by
  unfold pr lc
  rw [sm_congr (g := fun a => W b a * x a + t * (W b a * y a)) (fun j _ => by rw [Int.mul_add, Int.mul_left_comm]), sm_add, sm_mul]
theorem sg_lc {b : Nat} {x y : Vec} {t : Int} : sg n W b (lc x t y) = lc (sg n W b x) t (sg n W b y) := by
  funext j
  unfold sg
  rw [pr_lc]
  unfold mv lc
  dsimp only
  by_cases h : j = b
  · rw [if_pos h, if_pos h, if_pos h, Int.mul_add]; omega
  · rw [if_neg h, if_neg h, if_neg h]
def act (n : Nat) (W : Nat → Nat → Int) (w : List Nat) (x : Vec) : Vec := w.foldr (sg n W) x
def lets (n : Nat) (w : List Nat) : Prop := ∀ a ∈ w, a < n
theorem act_app {u v : List Nat} {x : Vec} : act n W (u ++ v) x = act n W u (act n W v x) := by unfold act; rw [List.foldr_append]
theorem act_lc {x y : Vec} {t : Int} : ∀ {w : List Nat}, act n W w (lc x t y) = lc (act n W w x) t (act n W w y)
  | [] => rfl
  | b :: w => by
    show sg n W b (act n W w _) = _
    rw [act_lc, sg_lc]; rfl
theorem lc_zz {t : Int} : lc zv t zv = zv := by funext j; unfold lc zv; omega
theorem sg_zv {b : Nat} : sg n W b zv = zv := by
  unfold sg
  rw [show pr n W b zv = 0 from sm_zero fun j _ => by unfold zv; omega, mv_zero]
theorem act_zv : ∀ {w : List Nat}, act n W w zv = zv
  | [] => rfl
  | b :: w => by
    show sg n W b (act n W w zv) = zv
    rw [act_zv, sg_zv]
theorem act_neg {w : List Nat} {x : Vec} : act n W w (neg x) = neg (act n W w x) := by
  unfold neg
  rw [act_lc, act_zv]
theorem sg_neg {b : Nat} {x : Vec} : sg n W b (neg x) = neg (sg n W b x) := act_neg (w := [b])
theorem sg_eb (C : Car n W) {b : Nat} (hb : b < n) : sg n W b (eb b) = neg (eb b) := by
  funext j
  unfold sg
  rw [pr_eb hb, C.dg b hb, mv_dif, neg_at]
  omega
def supp (n : Nat) (x : Vec) : Prop := ∀ j, n ≤ j → x j = 0
theorem supp_eb {a : Nat} (h : a < n) : supp n (eb a) := fun j hj => by unfold eb; rw [if_neg (by omega)]
theorem supp_sg {b : Nat} {x : Vec} (hb : b < n) (h : supp n x) : supp n (sg n W b x) := fun j hj => by
  unfold sg mv
  rw [if_neg (by omega)]
  exact h j hj
theorem supp_act {x : Vec} (h : supp n x) : ∀ {w : List Nat}, lets n w → supp n (act n W w x)
  | [], _ => h
  | b :: w, l => supp_sg (l b List.mem_cons_self) (supp_act h fun a ha => l a (List.mem_cons_of_mem _ ha))
theorem lets_app {u v : List Nat} : lets n (u ++ v) ↔ lets n u ∧ lets n v := by
  unfold lets
  constructor
  · exact fun h => ⟨fun a ha => h a (List.mem_append_left _ ha), fun a ha => h a (List.mem_append_right _ ha)⟩
  · exact fun h a ha => (List.mem_append.mp ha).elim (h.1 a) (h.2 a)
theorem lets_rev {u : List Nat} : lets n u.reverse ↔ lets n u := by
  unfold lets
  constructor
  · exact fun h a ha => h a (List.mem_reverse.mpr ha)
  · exact fun h a ha => h a (List.mem_reverse.mp ha)
theorem act_rev (C : Car n W) {x : Vec} : ∀ {w : List Nat}, lets n w → act n W w.reverse (act n W w x) = x
  | [], _ => rfl
  | b :: w, l => by
    rw [List.reverse_cons, act_app]
    show act n W w.reverse (sg n W b (sg n W b (act n W w x))) = x
    rw [sg_sg C (l b List.mem_cons_self)]
    exact act_rev C fun a ha => l a (List.mem_cons_of_mem _ ha)
theorem act_rev2 (C : Car n W) {x : Vec} {w : List Nat} (l : lets n w) : act n W w (act n W w.reverse x) = x := by
  have := act_rev C (x := x) (w := w.reverse) (lets_rev.mpr l)
  rw [List.reverse_reverse] at this
  exact this
theorem pos_sg1 (C : Car n W) {x : Vec} (h : Pos n W x) {b : Nat} (hb : b < n) : x = eb b ∨ Pos n W (sg n W b x) := pos_sg C ((sm x n).toNat + 1) x h (by omega) b hb
theorem sm_neg {x : Vec} : sm (neg x) n = - sm x n := by
  unfold neg
  rw [sm_lc, show sm zv n = 0 from sm_zero fun _ _ => rfl]
  omega
theorem not_both {x : Vec} (h : Pos n W x) (h2 : Pos n W (neg x)) : False := by
  have := h.ht
  have := h2.ht
  rw [sm_neg] at this
  omega
theorem sp_act (C : Car n W) {a : Nat} (ha : a < n) : ∀ {w : List Nat}, lets n w → Pos n W (act n W w (eb a)) ∨ Pos n W (neg (act n W w (eb a)))
  | [], _ => .inl (.eb ha)
  | b :: w, l => by
    have hb := l b List.mem_cons_self
    show Pos n W (sg n W b (act n W w (eb a))) ∨ Pos n W (neg (sg n W b (act n W w (eb a))))
    rcases sp_act C ha (w := w) fun a ha => l a (List.mem_cons_of_mem _ ha) with h | h
    · rcases pos_sg1 C h hb with e | h
      · rw [e, sg_eb C hb, neg_neg]
        exact .inr (.eb hb)
      · exact .inl h
    · rw [← sg_neg]
      rcases pos_sg1 C h hb with e | h
      · have e2 : act n W w (eb a) = neg (eb b) := by rw [← e, neg_neg]
        rw [e2, sg_neg, sg_eb C hb, neg_neg]
        exact .inl (.eb hb)
      · exact .inr h
theorem exch (C : Car n W) {a : Nat} (ha : a < n) : ∀ {w : List Nat}, lets n w → Pos n W (neg (act n W w (eb a))) → ∃ u b v, w = u ++ b :: v ∧ act n W v (eb a) = eb b
  | [], _, h => by
    have := h.nn a
    rw [neg_at] at this
    have e : act n W [] (eb a) a = 1 := by show eb a a = 1; unfold eb; rw [if_pos rfl]
    omega
  | b :: w, l, h => by
    have hb := l b List.mem_cons_self
    have lw : lets n w := fun a ha => l a (List.mem_cons_of_mem _ ha)
    rcases sp_act C ha lw with h1 | h1
    · rcases pos_sg1 C h1 hb with e | h2
      · exact ⟨[], b, w, rfl, e⟩
      · exact (not_both h2 h).elim
    · obtain ⟨u, b', v, e, e2⟩ := exch C ha lw h1
      exact ⟨b :: u, b', v, by rw [e]; rfl, e2⟩
theorem lin_ext {F : Vec → Int} (hl : ∀ x t y, F (lc x t y) = F x + t * F y) (he : ∀ c, c < n → F (eb c) = 0) : ∀ (m : Nat), m ≤ n → ∀ x : Vec, (∀ j, m ≤ j → x j = 0) → F x = 0
  | 0, _, x, h => by
    have e : x = zv := by funext j; exact h j (Nat.zero_le j)
    have := hl zv (-1) zv
    rw [lc_zz] at this
    rw [e]
    omega
  | m + 1, hm, x, h => by
    have e : x = lc (fun j => if j = m then 0 else x j) (x m) (eb m) := by
      funext j
      unfold lc eb
      dsimp only
      by_cases q : j = m
      · subst q
        rw [if_pos rfl, if_pos rfl]; omega
      · rw [if_neg q, if_neg q]; omega
    rw [e, hl, he m (by omega), lin_ext hl he m (by omega) (fun j => if j = m then 0 else x j) fun j hj => ?_]
    · omega
    · by_cases q : j = m
      · rw [if_pos q]
      · rw [if_neg q]
        exact h j (by omega)
theorem lin_eq {F G : Vec → Int} (hF : ∀ x t y, F (lc x t y) = F x + t * F y) (hG : ∀ x t y, G (lc x t y) = G x + t * G y) (he : ∀ c, c < n → F (eb c) = G (eb c)) {x : Vec} (hx : supp n x) : F x = G x := by
  have := lin_ext (n := n) (F := fun x => F x - G x) (fun x t y => by rw [hF, hG, Int.mul_sub]; omega) (fun c hc => by rw [he c hc]; omega) n (Nat.le_refl n) x hx
  omega
theorem conj (C : Car n W) {v : List Nat} {a b : Nat} (ha : a < n) (hb : b < n) (l : lets n v) (h : act n W v (eb a) = eb b) {x : Vec} (hx : supp n x) : sg n W b (act n W v (sg n W a x)) = act n W v x := by
  have sga : ∀ y, sg n W a y = lc y (pr n W a y) (eb a) := fun y => mv_lc
  have sgb : ∀ y, sg n W b y = lc y (pr n W b y) (eb b) := fun y => mv_lc
  have lr := lets_rev.mpr l
  have gx : ∀ y, act n W v (sg n W a (act n W v.reverse y)) = lc y (pr n W a (act n W v.reverse y)) (eb b) := fun y => by
    rw [sga, act_lc, h, act_rev2 C l]
  have fb : pr n W a (act n W v.reverse (eb b)) = -2 := by rw [← h, act_rev C l, pr_eb ha, C.dg a ha]
  have fl : ∀ x t y, pr n W a (act n W v.reverse (lc x t y)) = pr n W a (act n W v.reverse x) + t * pr n W a (act n W v.reverse y) := fun x t y => by rw [act_lc, pr_lc]
  have key : ∀ c, c < n → pr n W a (act n W v.reverse (eb c)) = pr n W b (eb c) := fun c hc => by
    by_cases e : c = b
    · subst e
      rw [fb, pr_eb hc, C.dg c hc]
    · have cb : (eb c) b = 0 := by unfold eb; rw [if_neg (fun z => e z.symm)]
      have cc : (eb c) c = 1 := by unfold eb; rw [if_pos rfl]
      have bb : (eb b) b = 1 := by unfold eb; rw [if_pos rfl]
      have bc : (eb b) c = 0 := by unfold eb; rw [if_neg e]
      have l1 : lets n (b :: (v ++ (a :: v.reverse))) := fun z hz => by
        rcases List.mem_cons.mp hz with rfl | hz
        · exact hb
        · rcases List.mem_append.mp hz with hz | hz
          · exact l z hz
          · rcases List.mem_cons.mp hz with rfl | hz
            · exact ha
            · exact lr z hz
      have l2 : lets n (v ++ (a :: (v.reverse ++ [b]))) := fun z hz => by
        rcases List.mem_append.mp hz with hz | hz
        · exact l z hz
        · rcases List.mem_cons.mp hz with rfl | hz
          · exact ha
          · rcases List.mem_append.mp hz with hz | hz
            · exact lr z hz
            · rcases List.mem_cons.mp hz with rfl | hz
              · exact hb
              · cases hz
      have z1 : act n W (b :: (v ++ (a :: v.reverse))) (eb c) = sg n W b (lc (eb c) (pr n W a (act n W v.reverse (eb c))) (eb b)) := by
        show sg n W b (act n W (v ++ (a :: v.reverse)) (eb c)) = _
        rw [act_app]
        show sg n W b (act n W v (sg n W a (act n W v.reverse (eb c)))) = _
        rw [gx]
      have z2 : act n W (v ++ (a :: (v.reverse ++ [b]))) (eb c) = lc (sg n W b (eb c)) (pr n W a (act n W v.reverse (sg n W b (eb c)))) (eb b) := by
        rw [act_app]
        show act n W v (sg n W a (act n W (v.reverse ++ [b]) (eb c))) = _
        rw [act_app]
        exact gx _
      have s1 := sp_act C hc l1
      have s2 := sp_act C hc l2
      rw [z1, sgb, pr_lc, pr_eb hc, pr_eb hb, C.dg b hb] at s1
      rw [z2, sgb, fl, fb, pr_eb hc] at s2
      rw [pr_eb hc]
      generalize pr n W a (act n W v.reverse (eb c)) = f at *
      have f1 : 0 ≤ W b c - f := by
        rcases s1 with s | s
        · have := s.nn b
          unfold lc at this
          rw [cb, bb] at this
          omega
        · have := s.nn c
          rw [neg_at] at this
          unfold lc at this
          rw [cc, bc] at this
          omega
      have f2 : 0 ≤ f - W b c := by
        rcases s2 with s | s
        · have := s.nn b
          unfold lc at this
          rw [cb, bb] at this
          omega
        · have := s.nn c
          rw [neg_at] at this
          unfold lc at this
          rw [cc, bc] at this
          omega
      omega
  have kx : pr n W a x = pr n W b (act n W v x) := by
    have := lin_eq (n := n) (F := fun x => pr n W a (act n W v.reverse x)) (G := fun x => pr n W b x) fl (fun x t y => pr_lc) key (x := act n W v x) (supp_act hx l)
    rw [act_rev C l] at this
    exact this
  rw [sga, act_lc, h, sgb, pr_lc, pr_eb hb, C.dg b hb, ← kx]
  funext j
  unfold lc
  generalize eb b j = z
  generalize pr n W a x = t
  rw [show t + t * -2 = -t by omega, Int.neg_mul]
  omega
theorem exch2 (C : Car n W) {a : Nat} (ha : a < n) {w : List Nat} (l : lets n w) (h : Pos n W (neg (act n W w (eb a)))) : ∃ u b v, w = u ++ b :: v ∧ ∀ x, supp n x → act n W (w ++ [a]) x = act n W (u ++ v) x := by
  obtain ⟨u, b, v, e, e2⟩ := exch C ha l h
  subst e
  have hb : b < n := l b (by simp)
  have lv : lets n v := fun z hz => l z (by simp [hz])
  refine ⟨u, b, v, rfl, fun x hx => ?_⟩
  rw [act_app, act_app]
  show act n W u (sg n W b (act n W v (sg n W a x))) = _
  rw [conj C ha hb lv e2 hx, act_app]
def hv (n : Nat) (W : Nat → Nat → Int) (w : List Nat) (a : Nat) : Int := sm (act n W w (eb a)) n
def Rw (n : Nat) (W : Nat → Nat → Int) (w v : List Nat) : Prop := ∀ c, c < n → hv n W w c = hv n W v c
theorem hv_neg_iff (C : Car n W) {a : Nat} (ha : a < n) {w : List Nat} (l : lets n w) : hv n W w a < 0 → Pos n W (neg (act n W w (eb a))) := fun h => by
  rcases sp_act C ha l with s | s
  · have := s.ht
    unfold hv at h
    omega
  · exact s
theorem hv_ne (C : Car n W) {a : Nat} (ha : a < n) {w : List Nat} (l : lets n w) : hv n W w a ≠ 0 := fun h => by
  unfold hv at h
  rcases sp_act C ha l with s | s
  · have := s.ht
    omega
  · have := s.ht
    rw [sm_neg] at this
    omega
theorem Rw.refl {w : List Nat} : Rw n W w w := fun _ _ => rfl
theorem Rw.symm {w v : List Nat} (h : Rw n W w v) : Rw n W v w := fun c hc => (h c hc).symm
theorem Rw.trans {u v w : List Nat} (h : Rw n W u v) (h2 : Rw n W v w) : Rw n W u w := fun c hc => (h c hc).trans (h2 c hc)
theorem Rw.sm {w v : List Nat} (h : Rw n W w v) {x : Vec} (hx : supp n x) : sm (act n W w x) n = sm (act n W v x) n :=
  lin_eq (n := n) (F := fun x => TT.sm (act n W w x) n) (G := fun x => TT.sm (act n W v x) n) (fun x t y => by rw [act_lc, sm_lc]) (fun x t y => by rw [act_lc, sm_lc]) h hx
theorem Rw.app {w v : List Nat} (h : Rw n W w v) {u : List Nat} (l : lets n u) : Rw n W (w ++ u) (v ++ u) := fun c hc => by
  unfold hv
  rw [act_app, act_app]
  exact h.sm (supp_act (supp_eb hc) l)
theorem hv_app_self (C : Car n W) {a : Nat} (ha : a < n) {w : List Nat} : hv n W (w ++ [a]) a = - hv n W w a := by
  unfold hv
  rw [act_app, show act n W [a] (eb a) = sg n W a (eb a) from rfl, sg_eb C ha, act_neg, sm_neg]
theorem Rw.twice (C : Car n W) {a : Nat} (ha : a < n) {w : List Nat} : Rw n W (w ++ [a] ++ [a]) w := fun c hc => by
  unfold hv
  rw [act_app, act_app]
  show TT.sm (act n W w (sg n W a (sg n W a (eb c)))) n = _
  rw [sg_sg C ha]
theorem Rw.of_map {w v : List Nat} (h : ∀ x, supp n x → act n W w x = act n W v x) : Rw n W w v := fun c hc => by unfold hv; rw [h _ (supp_eb hc)]
theorem hv_nil {c : Nat} (hc : c < n) : hv n W [] c = 1 := by
  unfold hv
  show sm (eb c) n = 1
  have := sm_eb (f := fun _ => (1 : Int)) hc
  simpa using this
theorem triv (C : Car n W) : ∀ (k : Nat) (w : List Nat), w.length = k → lets n w → (∀ c, c < n → hv n W w c = 1) → ∀ x, supp n x → act n W w x = x
  | k, w, hk, l, h, x, hx => by
    rcases List.eq_nil_or_concat w with rfl | ⟨w', a, e⟩
    · rfl
    · rw [List.concat_eq_append] at e
      subst e
      obtain ⟨lw, la⟩ := lets_app.mp l
      have ha := la a (by simp)
      have h1 := h a ha
      rw [hv_app_self C ha] at h1
      obtain ⟨u, b, v, e, hm⟩ := exch2 C ha lw (hv_neg_iff C ha lw (by omega))
      have luv : lets n (u ++ v) := by
        subst e
        exact fun z hz => lw z (by rcases List.mem_append.mp hz with q | q <;> simp [q])
      rw [hm x hx]
      have hl : (u ++ v).length < k := by
        subst e
        simp at hk ⊢
        omega
      refine triv C (u ++ v).length (u ++ v) rfl luv (fun c hc => ?_) x hx
      rw [← h c hc]
      unfold hv
      rw [hm _ (supp_eb hc)]
termination_by k => k
theorem Rw.map (C : Car n W) {w v : List Nat} (lw : lets n w) (lv : lets n v) (h : Rw n W w v) : ∀ x, supp n x → act n W w x = act n W v x := fun x hx => by
  have t := triv C _ (w ++ v.reverse) rfl (lets_app.mpr ⟨lw, lets_rev.mpr lv⟩) (fun c hc => by
    rw [h.app (lets_rev.mpr lv) c hc]
    unfold hv
    rw [act_app, act_rev2 C lv]
    exact hv_nil (W := W) hc) (act n W v x) (supp_act hx lv)
  rw [act_app, act_rev C lv] at t
  exact t
theorem Rw.rev (C : Car n W) {w v : List Nat} (lw : lets n w) (lv : lets n v) (h : Rw n W w v) : Rw n W w.reverse v.reverse := .of_map fun x hx => by
  have e := h.map C lw lv (act n W v.reverse x) (supp_act hx (lets_rev.mpr lv))
  rw [act_rev2 C lv] at e
  have e2 := congrArg (act n W w.reverse) e
  rw [act_rev C lw] at e2
  exact e2.symm
theorem min_ex (P : Nat → Prop) : ∀ k, P k → ∃ m, P m ∧ ∀ j, P j → m ≤ j
  | k, h => by
    by_cases q : ∃ j, j < k ∧ P j
    · obtain ⟨j, hj, pj⟩ := q
      exact min_ex P j pj
    · exact ⟨k, h, fun j hj => Nat.le_of_not_lt fun z => q ⟨j, z, hj⟩⟩
termination_by k => k
structure Ln (n : Nat) (W : Nat → Nat → Int) (w : List Nat) (k : Nat) : Prop where
  ex : ∃ v, lets n v ∧ v.length = k ∧ Rw n W v w
  le : ∀ v, lets n v → Rw n W v w → k ≤ v.length
theorem Ln.has {w : List Nat} (l : lets n w) : ∃ k, Ln n W w k := by
  obtain ⟨m, ⟨v, h1, h2, h3⟩, h4⟩ := min_ex (fun k => ∃ v, lets n v ∧ v.length = k ∧ Rw n W v w) w.length ⟨w, l, rfl, .refl⟩
  exact ⟨m, ⟨v, h1, h2, h3⟩, fun v a b => h4 _ ⟨v, a, rfl, b⟩⟩
theorem Ln.uniq {w : List Nat} {j k : Nat} (a : Ln n W w j) (b : Ln n W w k) : j = k := by
  obtain ⟨v, h1, h2, h3⟩ := a.ex
  obtain ⟨u, g1, g2, g3⟩ := b.ex
  have := a.le u g1 g3
  have := b.le v h1 h3
  omega
theorem Ln.cong {w v : List Nat} {k : Nat} (a : Ln n W w k) (h : Rw n W w v) : Ln n W v k := by
  obtain ⟨u, h1, h2, h3⟩ := a.ex
  exact ⟨⟨u, h1, h2, h3.trans h⟩, fun z l r => a.le z l (r.trans h.symm)⟩
theorem Ln.down (C : Car n W) {a : Nat} (ha : a < n) {w : List Nat} (l : lets n w) {k : Nat} (h : Ln n W w k) (hn : hv n W w a < 0) : ∃ j, k = j + 1 ∧ Ln n W (w ++ [a]) j := by
  obtain ⟨v, h1, h2, h3⟩ := h.ex
  have la : lets n [a] := fun z hz => by simp at hz; subst hz; exact ha
  obtain ⟨u, b, v', e, hm⟩ := exch2 C ha h1 (hv_neg_iff C ha h1 (by rw [h3 a ha]; exact hn))
  have luv : lets n (u ++ v') := by
    subst e
    exact fun z hz => h1 z (by rcases List.mem_append.mp hz with q | q <;> simp [q])
  have r1 : Rw n W (u ++ v') (w ++ [a]) := (Rw.of_map fun x hx => (hm x hx).symm).trans (h3.app la)
  have hl : (u ++ v').length + 1 = k := by subst e; simp at h2 ⊢; omega
  refine ⟨(u ++ v').length, hl.symm, ⟨u ++ v', luv, rfl, r1⟩, fun z lz rz => ?_⟩
  have := h.le (z ++ [a]) (lets_app.mpr ⟨lz, la⟩) ((rz.app la).trans (.twice C ha))
  rw [List.length_append] at this
  simp at this
  simp at hl ⊢
  omega
theorem Ln.up (C : Car n W) {a : Nat} (ha : a < n) {w : List Nat} (l : lets n w) {k : Nat} (h : Ln n W w k) (hn : 0 < hv n W w a) : Ln n W (w ++ [a]) (k + 1) := by
  have la : lets n [a] := fun z hz => by simp at hz; subst hz; exact ha
  obtain ⟨j, hj⟩ := Ln.has (W := W) (lets_app.mpr ⟨l, la⟩)
  obtain ⟨i, e, hi⟩ := hj.down C ha (lets_app.mpr ⟨l, la⟩) (by rw [hv_app_self C ha]; omega)
  have := (hi.cong (Rw.twice C ha)).uniq h
  subst this
  rw [← e]
  exact hj
theorem Ln.zero {w : List Nat} (h : Ln n W w 0) : ∀ c, c < n → hv n W w c = 1 := fun c hc => by
  obtain ⟨v, h1, h2, h3⟩ := h.ex
  obtain rfl : v = [] := List.eq_nil_of_length_eq_zero h2
  rw [← h3 c hc]
  exact hv_nil hc
theorem Ln.of_pos (C : Car n W) {w : List Nat} (l : lets n w) {k : Nat} (h : Ln n W w k) (hp : ∀ c, c < n → 0 < hv n W w c) : k = 0 := by
  obtain ⟨v, h1, h2, h3⟩ := h.ex
  rcases List.eq_nil_or_concat v with rfl | ⟨v', a, e⟩
  · exact h2.symm
  · rw [List.concat_eq_append] at e
    subst e
    obtain ⟨lv, la⟩ := lets_app.mp h1
    have ha := la a (by simp)
    have p := hp a ha
    rw [← h3 a ha, hv_app_self C ha] at p
    obtain ⟨j, hj⟩ := Ln.has (W := W) lv
    obtain ⟨i, e, hi⟩ := hj.down C ha lv (by omega)
    have e2 := (hi.cong h3).uniq h
    have := hj.le v' lv .refl
    simp at h2
    omega
theorem Ln.rev (C : Car n W) {w : List Nat} (l : lets n w) {k : Nat} (h : Ln n W w k) : Ln n W w.reverse k := by
  obtain ⟨v, h1, h2, h3⟩ := h.ex
  refine ⟨⟨v.reverse, lets_rev.mpr h1, by rw [List.length_reverse]; exact h2, h3.rev C h1 l⟩, fun z lz rz => ?_⟩
  have := h.le z.reverse (lets_rev.mpr lz) (by
    have := rz.rev C lz (lets_rev.mpr l)
    rw [List.reverse_reverse] at this
    exact this)
  rw [List.length_reverse] at this
  exact this
theorem Ln.le_len {w : List Nat} (l : lets n w) {k : Nat} (h : Ln n W w k) : k ≤ w.length := h.le w l .refl
end
end TT
namespace BW
open PySem L2 DL
def kd_WEIGHTS : List (Int × D) := [(2, tI [0, 0]), (3, tI [1, 1]), (4, tI [1, 2]), (6, tI [1, 3]), (0, tI [2, 2])]
abbrev t_is_whole : DS := (dRet (dAndV (dIsi "int" (dVar 0)) (dNotV (dIsi "bool" (dVar 0)))))
abbrev t_can_stand : DS := (dSeq (dSet 3 (dOp oIx (dIxN 0 (dOp oSub (dVar 1) (dC (.int 1)))) (dOp oSub (dVar 2) (dC (.int 1)))))
  (dSeq (dIfS (dNot (dTru (dCall sp_is_whole (dCons (dVar 3) dNil)))) (dRet (dC (.bl false))) dNext)
  (dSeq (dIfS (dTB (dOp oEq (dVar 1) (dVar 2))) (dRet (dOp oEq (dVar 3) (dC (.int (1))))) dNext)
  (dSeq (dIfS (dTB (dOp oLt (dVar 1) (dVar 2))) (dRet (dKdIn kd_WEIGHTS (dVar 3))) dNext)
  (dRet (dOp oEq (dVar 3) (dOp oIx (dIxN 0 (dOp oSub (dVar 2) (dC (.int 1)))) (dOp oSub (dVar 1) (dC (.int 1))))))))))
abbrev t_check_shape : DS := (dSeq (dIfS (dOr (dNot (dTru (dIsi2 "list" "tuple" (dVar 0)))) (dTB (dOp oEq (dLenN 0) (dC (.int 0))))) (fun _ _ => False) dNext)
  (dSeq (dIfS (dTB (dOp oGt (dLenN 0) (dC (.int (6))))) (fun _ _ => False) dNext)
  (dFor (iLst (dVar 0)) (dgN 1) (dIfS (dOr (dNot (dTru (dIsi2 "list" "tuple" (dVar 1)))) (dTB (dOp oNe (dLenN 1) (dLenN 0)))) (fun _ _ => False) dNext))))
abbrev t_check_table : DS := (dSeq (dDrop (dCall sp_check_shape (dCons (dVar 0) dNil)))
  (dSeq (dSet 1 (dFr (dLr2 (dC (.int 1)) (dOp oAdd (dLenN 0) (dC (.int 1))))))
  (dFor (iLst (dVar 1)) (dgN 2) (dFor (iLst (dVar 1)) (dgN 3) (dIfS (dNot (dTru (dCall sp_can_stand (dCons (dVar 0) (dCons (dVar 2) (dCons (dVar 3) dNil)))))) (fun _ _ => False) dNext)))))
abbrev t_weight_of : DS := (dSeq (dIfS (dTB (dOp oEq (dVar 1) (dVar 2))) (dRet (dC (.int (-2)))) dNext)
  (dSeq (dAsg (dKd kd_WEIGHTS (dOp oIx (dIxN 0 (dOp oSub (dVar 1) (dC (.int 1)))) (dOp oSub (dVar 2) (dC (.int 1))))) (dgTup 2 (dgCons (dgN 3) (dgCons (dgN 4) dgNil))))
  (dRet (dIf (dTB (dOp oLt (dVar 1) (dVar 2))) (dVar 3) (dVar 4)))))
abbrev t_weights_from : DS := (dRet (dTupOf (dFr (dLc (iR2 (dC (.int 1)) (dOp oAdd (dLenN 0) (dC (.int 1)))) (dgN 2) dY (dCall sp_weight_of (dCons (dVar 0) (dCons (dVar 1) (dCons (dVar 2) dNil)))) [2]))))
abbrev t_first_row (BC : Addr) : DS := (dRet (dOp oMul (dTup (dCons (dC (.int 1)) dNil)) (dLenO BC (sp_len_Bonds BC) (dVar 0))))
abbrev t_pressed (BC : Addr) : DS := (dSeq (dSet 3 (dIxN 1 (dOp oSub (dVar 2) (dC (.int 1)))))
  (dSeq (dSet 4 (dOp oIx (dFld BC "weights" (dVar 0)) (dOp oSub (dVar 2) (dC (.int 1)))))
  (dRet (dTupOf (dFr (dLc (iZp (dVar 1) (dVar 4)) (dgTup 2 (dgCons (dgN 5) (dgCons (dgN 6) dgNil))) dY (dOp oAdd (dVar 5) (dOp oMul (dVar 6) (dVar 3))) [5, 6]))))))
abbrev t__law_mixed : DS := (dSeq (dSet 2 (dOp oAdd (dOp oAdd (dOp oMod (dInt (dOp oMul (dOp oMul (dVar 0) (dOp oAdd (dC (.int 1)) (dOp oMul (dC (.int 2)) (dVar 1)))) (dC (.int 48271)))) (dC (.int 2147483647))) (dOp oMul (dOp oMul (dC (.int 7919)) (dVar 1)) (dVar 1))) (dOp oMul (dC (.int 104729)) (dVar 1))))
  (dRet (dOp oDiv (dOp oMod (dInt (dOp oMul (dVar 2) (dC (.int 69621)))) (dC (.int 2147483629))) (dC (.int 7)))))
end BW
namespace BW
open PySem L2 DL
theorem iteD {p : Prop} [Decidable p] {a b : Prop} (h1 : p → a) (h2 : ¬p → b) : if decide p = true then a else b := by
  by_cases h : p
  · rw [decide_eq_true h]; exact iteT (h1 h)
  · rw [decide_eq_false h]; exact iteF (h2 h)
theorem ixN_nat {n j : Nat} (hj : j < n) : ixN n (j : Int) = some j := by
  unfold ixN
  rw [if_pos (by omega), if_pos (by omega)]
  simp
theorem getD_get {α : Type} {xs : List α} {i : Nat} {d : α} (h : i < xs.length) : xs[i]? = some (xs.getD i d) := by
  rw [List.getD_eq_getElem?_getD, List.getElem?_eq_getElem h]; rfl
theorem atM {α β : Type} {xs : List α} {f : α → β} {i : Nat} (d : α) (h : i < xs.length) : atI (xs.map f) (i : Int) = some (f (xs.getD i d)) := by
  refine atI_nat ?_
  rw [List.getElem?_map, getD_get (d := d) h]; rfl
theorem eqvI (a b : Int) : PyData.eqv (D.int a).py (D.int b).py = decide (a = b) := by
  show PyData.eqv (.int a) (.int b) = _
  first | rfl | (unfold PyData.eqv; rfl)
abbrev St0 (hm : Bool) (n : Nat) (ds : List D) (X : List Addr) (k : Nat) : S := ⟨X, init hm n ds, k⟩
abbrev En (R : D → Nat → Prop) : DEnds := { nx := fun s => R .non s.k, rt := R }
theorem r_is_whole (X : List Addr) (ds : List D) (k : Nat) (R : D → Nat → Prop) (h : sp_is_whole ds k R) : t_is_whole (En R) (St0 false 1 ds X k) := by
  obtain ⟨d, rfl, hd, h⟩ := h
  intro X
  cases d <;> first
    | exact ⟨_, rfl, _, _, rfl, rfl, _, rfl, iteT ⟨_, rfl, _, _, rfl, rfl, _, rfl, h⟩⟩
    | exact ⟨_, rfl, _, _, rfl, rfl, _, rfl, iteF h⟩
    | cases hd
theorem r_can_stand (X : List Addr) (ds : List D) (k : Nat) (R : D → Nat → Prop) (h : sp_can_stand ds k R) : t_can_stand (En R) (St0 false 4 ds X k) := by
  obtain ⟨T, a, b, rfl, ht, a1, a2, b1, b2, h⟩ := h
  obtain ⟨i, rfl⟩ : ∃ i : Nat, a = (i : Int) + 1 := ⟨(a - 1).toNat, by omega⟩
  obtain ⟨j, rfl⟩ : ∃ j : Nat, b = (j : Int) + 1 := ⟨(b - 1).toNat, by omega⟩
  have hi : i < T.length := by omega
  have hj : j < T.length := by omega
  have row : ∀ i : Nat, i < T.length → ∀ z : Int, z = (i : Int) → atI (T.map lI) z = some (lI (T.getD i [])) := fun i hi z e => by rw [e]; exact atM [] hi
  have item : ∀ i j : Nat, i < T.length → j < T.length → ∀ z : Int, z = (j : Int) → atI ((T.getD i []).map D.int) z = some (.int (at2 T i j)) := fun i j hi hj z e => by rw [e]; exact atM 0 (by rw [ht.sq i hi]; exact hj)
  refine ⟨_, rfl, _, rfl, _, _, rfl, row i hi _ (by omega), _, rfl, _, _, rfl, item i j hi hj _ (by omega), ?_⟩
  refine ⟨_, rfl, _, rfl, rfl, _, rfl, iteF ?_⟩
  refine ⟨_, rfl, _, rfl, rfl, rfl, _, rfl, ?_⟩
  rw [eqvI]
  refine iteD (fun e => ?_) fun ne => ?_
  · have e : i = j := by omega
    subst e
    intro X
    refine ⟨_, rfl, rfl, rfl, ?_⟩
    rw [eqvI, ht.dg i hi]
    exact h
  · refine ⟨_, rfl, _, rfl, _, rfl, iteD (fun lt => ?_) fun ge => ?_⟩
    · intro X
      refine ⟨_, rfl, _, rfl, ?_⟩
      have e : (lookI kd_WEIGHTS (at2 T i j)).isSome = true := by
        rcases ht.of i j hi hj (by omega) with e | e | e | e | e <;> rw [e] <;> rfl
      rw [e]
      exact h
    · intro X
      refine ⟨_, rfl, _, rfl, _, rfl, _, _, rfl, row j hj _ (by omega), _, rfl, _, _, rfl, item j i hj hi _ (by omega), rfl, rfl, ?_⟩
      rw [eqvI, ht.sy i j hi hj, decide_eq_true rfl]
      exact h
end BW
namespace BW
open PySem L2 DL
theorem r_check_shape (X : List Addr) (ds : List D) (k : Nat) (R : D → Nat → Prop) (h : sp_check_shape ds k R) : t_check_shape (En R) (St0 false 2 ds X k) := by
  obtain ⟨T, rfl, ht, h⟩ := h
  have lo := ht.lo
  have hi := ht.hi
  refine ⟨_, rfl, _, _, _, rfl, rfl, rfl, _, rfl, iteF ⟨_, rfl, rfl, rfl, _, rfl, ?_⟩⟩
  rw [eqvI, List.length_map, decide_eq_false (by omega)]
  refine iteF ⟨_, rfl, _, rfl, ?_⟩
  rw [List.length_map, decide_eq_false (by omega)]
  refine iteF ⟨_, rfl, _, rfl, fun i s' => ∃ x, s' = ⟨X, [.dat (lM T), x], k⟩, ⟨_, rfl⟩, ?_, ?_⟩
  · rintro i d s' hd ⟨x, rfl⟩
    rw [List.getElem?_map] at hd
    obtain ⟨r, hr, rfl⟩ := Option.map_eq_some_iff.mp hd
    have hl : i < T.length := (List.getElem?_eq_some_iff.mp hr).1
    have hrl : r.length = T.length := by
      have := ht.sq i hl
      rw [List.getD_eq_getElem?_getD, hr] at this
      exact this
    refine ⟨_, rfl, _, _, _, rfl, rfl, rfl, _, rfl, iteF ⟨_, rfl, _, rfl, rfl, rfl, _, rfl, ?_⟩⟩
    rw [eqvI, List.length_map, List.length_map, decide_eq_true (by omega)]
    exact iteF ⟨_, rfl⟩
  · rintro s' ⟨x, rfl⟩
    exact h
theorem r_check_table (X : List Addr) (ds : List D) (k : Nat) (R : D → Nat → Prop) (h : sp_check_table ds k R) : t_check_table (En R) (St0 false 4 ds X k) := by
  obtain ⟨T, rfl, ht, h⟩ := h
  have hi := ht.hi
  refine ⟨_, rfl, T, rfl, ht, ?_⟩
  refine ⟨_, rfl, 1, _, rfl, rfl, ⟨by omega, by omega, ?_, ?_⟩, ?_⟩
  · rw [List.length_map]; omega
  · rw [List.length_map]; omega
  have en : (((T.map lI).length : Int) + 1 - 1).toNat = T.length := by rw [List.length_map]; omega
  rw [en]
  refine ⟨_, rfl, _, rfl, fun i s' => ∃ x y, s' = ⟨X, [.dat (lM T), .dat (.lst (rngD 1 T.length)), x, y], k⟩, ⟨_, _, rfl⟩, ?_, ?_⟩
  · rintro i d s' hd ⟨x, y, rfl⟩
    obtain ⟨hi, rfl⟩ := rngD_at hd
    refine ⟨_, rfl, _, rfl, fun j s' => ∃ y, s' = ⟨X, [.dat (lM T), .dat (.lst (rngD 1 T.length)), .dat (.int (1 + i)), y], k⟩, ⟨_, rfl⟩, ?_, ?_⟩
    · rintro j d s' hd ⟨y, rfl⟩
      obtain ⟨hj, rfl⟩ := rngD_at hd
      refine ⟨_, rfl, _, rfl, _, rfl, T, _, _, rfl, ht, by omega, by omega, by omega, by omega, _, rfl, iteF ⟨_, rfl⟩⟩
    · rintro s' ⟨y, rfl⟩
      exact ⟨_, _, rfl⟩
  · rintro s' ⟨x, y, rfl⟩
    exact h
theorem look_wts {k : Int} (h : k = 2 ∨ k = 3 ∨ k = 4 ∨ k = 6 ∨ k = 0) : lookI kd_WEIGHTS k = some (tI [(wts k).1, (wts k).2]) := by
  rcases h with e | e | e | e | e <;> subst e <;> rfl
theorem r_weight_of (X : List Addr) (ds : List D) (k : Nat) (R : D → Nat → Prop) (h : sp_weight_of ds k R) : t_weight_of (En R) (St0 false 5 ds X k) := by
  obtain ⟨T, a, b, rfl, ht, a1, a2, b1, b2, h⟩ := h
  obtain ⟨i, rfl⟩ : ∃ i : Nat, a = (i : Int) + 1 := ⟨(a - 1).toNat, by omega⟩
  obtain ⟨j, rfl⟩ : ∃ j : Nat, b = (j : Int) + 1 := ⟨(b - 1).toNat, by omega⟩
  have hi : i < T.length := by omega
  have hj : j < T.length := by omega
  have ei : ix ((i : Int) + 1) = i := by unfold ix; omega
  have ej : ix ((j : Int) + 1) = j := by unfold ix; omega
  rw [ei, ej] at h
  have row : ∀ i : Nat, i < T.length → ∀ z : Int, z = (i : Int) → atI (T.map tI) z = some (tI (T.getD i [])) := fun i hi z e => by rw [e]; exact atM [] hi
  have item : ∀ i j : Nat, i < T.length → j < T.length → ∀ z : Int, z = (j : Int) → atI ((T.getD i []).map D.int) z = some (.int (at2 T i j)) := fun i j hi hj z e => by rw [e]; exact atM 0 (by rw [ht.sq i hi]; exact hj)
  refine ⟨_, rfl, _, rfl, rfl, rfl, _, rfl, ?_⟩
  rw [eqvI]
  refine iteD (fun e => ?_) fun ne => ?_
  · intro X
    have e : i = j := by omega
    subst e
    unfold wt at h
    rw [if_pos rfl] at h
    exact h
  · have ne' : i ≠ j := by omega
    refine ⟨_, rfl, _, rfl, _, _, rfl, row i hi _ (by omega), _, rfl, _, _, rfl, item i j hi hj _ (by omega), ?_⟩
    refine ⟨_, _, rfl, look_wts (ht.of i j hi hj ne'), rfl, rfl, ?_⟩
    intro X
    unfold wt at h
    rw [if_neg ne'] at h
    refine ⟨_, rfl, _, rfl, _, rfl, iteD (fun lt => ⟨_, rfl, ?_⟩) fun ge => ⟨_, rfl, ?_⟩⟩
    · rw [if_pos (by omega)] at h; exact h
    · rw [if_neg (by omega)] at h; exact h
theorem r_weights_from (X : List Addr) (ds : List D) (k : Nat) (R : D → Nat → Prop) (h : sp_weights_from ds k R) : t_weights_from (En R) (St0 false 3 ds X k) := by
  obtain ⟨T, a, rfl, ht, a1, a2, h⟩ := h
  have hi := ht.hi
  intro X
  refine ⟨_, rfl, 1, _, rfl, rfl, ⟨by omega, by omega, ?_, ?_⟩, ?_⟩
  · rw [List.length_map]; omega
  · rw [List.length_map]; omega
  have en : (((T.map tI).length : Int) + 1 - 1).toNat = T.length := by rw [List.length_map]; omega
  rw [en]
  refine ⟨by rw [rngD_len]; exact Nat.le_trans hi (by decide), fun p hp => ⟨fun i acc k' => k' = k ∧ acc = ((List.range i).map fun j => D.int (wt T (ix a) j)), ⟨rfl, rfl⟩, ?_, ?_⟩⟩
  · rintro i d acc k' hd ⟨rfl, rfl⟩ hl
    obtain ⟨hi, rfl⟩ := rngD_at hd
    refine iteT ⟨_, rfl, _, rfl, _, rfl, T, a, _, rfl, ht, a1, a2, by omega, by omega, rfl, ?_⟩
    rw [List.range_succ, List.map_append]
    have e : ix (1 + (i : Int)) = i := by unfold ix; omega
    rw [e]
    rfl
  · rintro acc k' ⟨rfl, rfl⟩ hl
    refine ⟨_, rfl, ?_⟩
    have e : ((List.range (rngD 1 T.length).length).map fun j => D.int (wt T (ix a) j)) = (wtr T (ix a)).map .int := by
      unfold wtr
      rw [rngD_len, List.map_map]
      rfl
    rw [e]
    exact h
end BW
namespace BW
open PySem L2 DL
theorem press_length (T : Mat) (r : List Int) (i : Nat) : (press T r i).length = T.length := by unfold press; rw [List.length_map, List.length_range]
theorem rep_one (n : Nat) : (List.replicate n [D.int 1]).flatten = (List.replicate n (1 : Int)).map .int := by
  induction n with
  | zero => rfl
  | succ n ih => rw [List.replicate_succ, List.flatten_cons, ih, List.replicate_succ]; rfl
theorem r_first_row (BC : Addr) (X : List Addr) (ds : List D) (k : Nat) (R : D → Nat → Prop) (h : sp_first_row BC ds k R) : t_first_row BC (En R) (St0 false 1 ds X k) := by
  obtain ⟨T, rfl, ht, h⟩ := h
  have lo := ht.lo
  have hi := ht.hi
  intro X
  refine ⟨by decide, _, rfl, ⟨_, _, rfl⟩, T, rfl, hi, T.length, rfl, by omega, ?_⟩
  refine ⟨by simp, by omega, by omega, by decide, ?_⟩
  have e : (List.replicate ((T.length : Nat) : Int).toNat [D.int 1]).flatten = (one T).map .int := by rw [Int.toNat_natCast]; exact rep_one _
  show R (.tup (List.replicate ((T.length : Nat) : Int).toNat [D.int 1]).flatten) k
  rw [e]
  exact h
theorem r_pressed (BC : Addr) (X : List Addr) (ds : List D) (k : Nat) (R : D → Nat → Prop) (h : sp_pressed BC ds k R) : t_pressed BC (En R) (St0 false 7 ds X k) := by
  obtain ⟨T, r, a, rfl, ht, hr, a1, a2, h⟩ := h
  have hT := ht.hi
  obtain ⟨i, rfl⟩ : ∃ i : Nat, a = (i : Int) + 1 := ⟨(a - 1).toNat, by omega⟩
  have hi : i < T.length := by omega
  have ei : ix ((i : Int) + 1) = i := by unfold ix; omega
  rw [ei] at h
  refine ⟨_, rfl, _, rfl, _, .int (r.getD i 0), rfl, by rw [show (i : Int) + 1 - 1 = (i : Int) by omega]; exact atM 0 (by omega), ?_⟩
  have w1 : atI ((wtM T).map tI) ((i : Int) + 1 - 1) = some (tI (wtr T i)) := by
    rw [show (i : Int) + 1 - 1 = (i : Int) by omega]
    have q := atM (f := tI) (xs := wtM T) [] (i := i) (by unfold wtM; rw [List.length_map, List.length_range]; exact hi)
    rw [q]
    congr 2
    unfold wtM
    rw [List.getD_eq_getElem?_getD, List.getElem?_map, List.getElem?_range hi]
    rfl
  refine ⟨_, rfl, _, _, _, rfl, rfl, _, rfl, _, _, rfl, w1, ?_⟩
  intro X
  have lw : (wtr T i).length = T.length := by unfold wtr; rw [List.length_map, List.length_range]
  refine ⟨_, rfl, _, rfl, _, _, rfl, rfl, ?_⟩
  have lp : (pairD (r.map D.int) ((wtr T i).map D.int)).length = T.length := by rw [pair_len, List.length_map, List.length_map, hr, lw]; omega
  refine ⟨by rw [lp]; exact Nat.le_trans hT (by decide), fun p hp => ⟨fun j acc k' => k' = k ∧ acc = ((List.range j).map fun j => D.int (r.getD j 0 + wt T i j * r.getD i 0)), ⟨rfl, rfl⟩, ?_, ?_⟩⟩
  · rintro j d acc k' hd ⟨rfl, rfl⟩ hl
    have hj : j < T.length := by rw [← lp]; exact (List.getElem?_eq_some_iff.mp hd).1
    obtain ⟨x, y, hx, hy, rfl⟩ := pair_at hd
    rw [List.getElem?_map, getD_get (d := 0) (by omega : j < r.length)] at hx
    rw [List.getElem?_map, getD_get (d := 0) (by omega : j < (wtr T i).length)] at hy
    cases hx
    cases hy
    have ew : (wtr T i).getD j 0 = wt T i j := by
      unfold wtr
      rw [List.getD_eq_getElem?_getD, List.getElem?_map, List.getElem?_range hj]
      rfl
    rw [ew]
    have bw : -(2 ^ 64) < wt T i j ∧ wt T i j < 2 ^ 64 := by
      unfold wt wts
      split
      · exact ⟨by decide, by decide⟩
      · split <;> split <;> first | exact ⟨by decide, by decide⟩ | (split <;> first | exact ⟨by decide, by decide⟩ | (split <;> first | exact ⟨by decide, by decide⟩ | (split <;> exact ⟨by decide, by decide⟩)))
    refine ⟨rfl, rfl, iteT ⟨_, rfl, _, rfl, _, rfl, .inl bw, rfl, ?_⟩⟩
    rw [List.range_succ, List.map_append]
    rfl
  · rintro acc k' ⟨rfl, rfl⟩ hl
    refine ⟨_, rfl, ?_⟩
    rw [lp]
    have e : ((List.range T.length).map fun j => D.int (r.getD j 0 + wt T i j * r.getD i 0)) = (press T r i).map .int := by
      unfold press
      rw [List.map_map]
      rfl
    rw [e]
    exact h
end BW
namespace BW
open PySem L2 DL
theorem fall_mem {r : List Int} {a : Int} (h : a ∈ fall r) : ∃ i : Nat, a = (i : Int) + 1 ∧ i < r.length ∧ r.getD i 0 < 0 := by
  unfold fall at h
  obtain ⟨i, hi, rfl⟩ := List.mem_map.mp h
  obtain ⟨h1, h2⟩ := List.mem_filter.mp hi
  exact ⟨i, rfl, List.mem_range.mp h1, of_decide_eq_true h2⟩
theorem wd_nil {T : Mat} {n : Nat} {r : List Int} (h : fall r = []) : wd T n r = ([], r) := by
  cases n with
  | zero => rfl
  | succ n => unfold wd; rw [h]
theorem wd_cons {T : Mat} {n : Nat} {r : List Int} {a : Int} {q : List Int} (h : fall r = a :: q) : wd T (n + 1) r = (a :: (wd T n (press T r (ix a))).1, (wd T n (press T r (ix a))).2) := by
  conv => lhs; unfold wd
  rw [h]
theorem row_length (T : Mat) (w : List Int) : (row T w).length = T.length := by
  unfold row
  have : ∀ (w : List Int) (r : List Int), r.length = T.length → (w.foldl (fun r a => press T r (ix a)) r).length = T.length := by
    intro w
    induction w with
    | nil => exact fun _ h => h
    | cons a w ih => exact fun r _ => ih _ (press_length _ _ _)
  exact this w _ (by unfold one; rw [List.length_replicate])
end BW
namespace BW
open PySem L2 DL
theorem r__law_mixed (X : List Addr) (ds : List D) (k : Nat) (R : D → Nat → Prop) (h : sp__law_mixed ds k R) : t__law_mixed (En R) (St0 false 3 ds X k) := by
  obtain ⟨a, n, rfl, a0, a1, n0, n1, h⟩ := h
  (repeat (first | with_reducible refine ⟨_, rfl, ?_⟩ | refine ⟨_, rfl, ?_⟩ | refine And.intro (by (first | omega | exact Or.inl ⟨by omega, by omega⟩ | exact Or.inr ⟨by omega, by omega⟩ | exact wide_div (b := 40) (by omega) (by omega) (by decide) (by decide) | exact ⟨by omega, by omega⟩ | exact ⟨by omega, by omega, by omega⟩ | exact ⟨by omega, by omega, by omega, by omega⟩ | decide)) ?_))
  intro X
  (repeat (first | with_reducible refine ⟨_, rfl, ?_⟩ | refine ⟨_, rfl, ?_⟩ | refine And.intro (by (first | omega | exact Or.inl ⟨by omega, by omega⟩ | exact Or.inr ⟨by omega, by omega⟩ | exact wide_div (b := 40) (by omega) (by omega) (by decide) (by decide) | exact ⟨by omega, by omega⟩ | exact ⟨by omega, by omega, by omega⟩ | exact ⟨by omega, by omega, by omega, by omega⟩ | decide)) ?_))
  refine h _ ?_ ?_
  · omega
  · omega
end BW
namespace BW
open PySem L2 DL
inductive Deed where
  | inn (k : Nat) (a : Int) | out (k : Nat) | turn (k : Nat)
def Deed.d : Deed → D
  | .inn k a => .tup [.str "in", .int k, .int a]
  | .out k => .tup [.str "out", .int k]
  | .turn k => .tup [.str "turn", .int k]
def Deed.k : Deed → Nat
  | .inn k _ => k
  | .out k => k
  | .turn k => k
def mv (T : Mat) (w : List Int) : Deed → Option (List Int)
  | .inn k a => some ((w.take k ++ [a, a]) ++ w.drop k)
  | .out k => if k + 1 < w.length ∧ w.getD k 0 = w.getD (k + 1) 0 then some (w.take k ++ w.drop (k + 2)) else none
  | .turn k => if k + 1 < w.length ∧ w.getD k 0 ≠ w.getD (k + 1) 0 then
      (let a := w.getD k 0
       let b := w.getD (k + 1) 0
       let m := (at2 T (ix a) (ix b)).toNat
       if m ≠ 0 ∧ (w.drop k).take m = alt a b m then some ((w.take k ++ alt b a m) ++ w.drop (k + m)) else none) else none
theorem mv_out (T : Mat) (w : List Int) (k : Nat) : mv T w (.out k) = if k + 1 < w.length ∧ w.getD k 0 = w.getD (k + 1) 0 then some (w.take k ++ w.drop (k + 2)) else none := rfl
theorem mv_turn (T : Mat) (w : List Int) (k : Nat) : mv T w (.turn k) = if k + 1 < w.length ∧ w.getD k 0 ≠ w.getD (k + 1) 0 then
      (if (at2 T (ix (w.getD k 0)) (ix (w.getD (k + 1) 0))).toNat ≠ 0 ∧ (w.drop k).take (at2 T (ix (w.getD k 0)) (ix (w.getD (k + 1) 0))).toNat = alt (w.getD k 0) (w.getD (k + 1) 0) (at2 T (ix (w.getD k 0)) (ix (w.getD (k + 1) 0))).toNat then some ((w.take k ++ alt (w.getD (k + 1) 0) (w.getD k 0) (at2 T (ix (w.getD k 0)) (ix (w.getD (k + 1) 0))).toNat) ++ w.drop (k + (at2 T (ix (w.getD k 0)) (ix (w.getD (k + 1) 0))).toNat)) else none) else none := rfl
end BW
namespace BW
open PySem L2 DL
theorem range_step {α : Type} (f : Nat → α) (j : Nat) : (List.range (j + 1)).map f = (List.range j).map f ++ [f j] := by rw [List.range_succ, List.map_append]; rfl
end BW
namespace BW
open PySem L2 DL
theorem alt_length (a b : Int) (n : Nat) : (alt a b n).length = n := by unfold alt; rw [List.length_map, List.length_range]
theorem alt_mem {a b x : Int} {n : Nat} (h : x ∈ alt a b n) : x = a ∨ x = b := by
  unfold alt at h
  obtain ⟨i, _, rfl⟩ := List.mem_map.mp h
  by_cases c : i % 2 = 0
  · rw [if_pos c]; exact .inl rfl
  · rw [if_neg c]; exact .inr rfl
def Deed.fits (n m : Nat) : Deed → Prop
  | .inn k a => k ≤ m ∧ 1 ≤ a ∧ a ≤ n
  | _ => True
theorem mv_wd {T : Mat} {w v : List Int} {e : Deed} (hw : Wd T.length w) (he : e.fits T.length w.length) (h : mv T w e = some v) : Wd T.length v := by
  have tk : ∀ n x, x ∈ w.take n → x ∈ w := fun n x h => List.mem_of_mem_take h
  have dp : ∀ n x, x ∈ w.drop n → x ∈ w := fun n x h => List.mem_of_mem_drop h
  cases e with
  | inn k a =>
    have h : (w.take k ++ [a, a]) ++ w.drop k = v := Option.some.inj h
    subst h
    intro x hx
    rcases List.mem_append.mp hx with hx | hx
    · rcases List.mem_append.mp hx with hx | hx
      · exact hw x (tk _ _ hx)
      · simp at hx
        subst hx
        exact he.2
    · exact hw x (dp _ _ hx)
  | out k =>
    rw [mv_out] at h
    split at h
    · cases h
      intro x hx
      rcases List.mem_append.mp hx with hx | hx
      · exact hw x (tk _ _ hx)
      · exact hw x (dp _ _ hx)
    · cases h
  | turn k =>
    rw [mv_turn] at h
    split at h
    · rename_i c
      split at h
      · cases h
        have ma := hw (w.getD k 0) (List.mem_of_getElem? (getD_get (d := 0) (by omega : k < w.length)))
        have mb := hw (w.getD (k + 1) 0) (List.mem_of_getElem? (getD_get (d := 0) c.1))
        intro x hx
        rcases List.mem_append.mp hx with hx | hx
        · rcases List.mem_append.mp hx with hx | hx
          · exact hw x (tk _ _ hx)
          · rcases alt_mem hx with e | e
            · rw [e]; exact mb
            · rw [e]; exact ma
        · exact hw x (dp _ _ hx)
      · cases h
    · cases h
def Deed.isIn : Deed → Bool
  | .inn _ _ => true
  | _ => false
theorem mv_len {T : Mat} {w v : List Int} {e : Deed} (h : mv T w e = some v) : v.length ≤ w.length + (if e.isIn = true then 2 else 0) := by
  cases e with
  | inn k a =>
    have h : (w.take k ++ [a, a]) ++ w.drop k = v := Option.some.inj h
    subst h
    show _ ≤ w.length + 2
    rw [List.length_append, List.length_append, List.length_take, List.length_drop]
    show min k w.length + 2 + (w.length - k) ≤ _
    omega
  | out k =>
    rw [mv_out] at h
    split at h
    · cases h
      show _ ≤ w.length + 0
      rw [List.length_append, List.length_take, List.length_drop]
      omega
    · cases h
  | turn k =>
    rw [mv_turn] at h
    split at h
    · rename_i c
      split at h
      · rename_i c2
        cases h
        show _ ≤ w.length + 0
        have l := congrArg List.length c2.2
        rw [alt_length, List.length_take, List.length_drop] at l
        rw [List.length_append, List.length_append, alt_length, List.length_take, List.length_drop]
        omega
      · cases h
    · cases h
end BW
namespace BW
open PySem L2 DL
def exLE (K : PySem.W.Frag) (t : DE) : TE := fun σ H Q => ∃ c, c.K = K ∧ LE c t σ H Q
theorem PE.exE {X : Cx} {e : Expr} {K : PySem.W.Frag} {t : DE} (h : ∀ c, c.K = K → PE X e (LE c t)) : PE X e (exLE K t) := ⟨fun pins s σ H Q I ⟨c, hc, q⟩ => (h c hc).run pins s σ H Q I q⟩
structure Mx (H : Hp) (p : Addr) (qs : List Addr) (M : Mat) : Prop where
  top : H p = some (.lst (qs.map V.ref))
  len : qs.length = M.length
  row : ∀ (i : Nat) (q : Addr) (r : List Int), qs[i]? = some q → M[i]? = some r → H q = some (.lst (r.map V.int))
  nd : qs.Nodup
  out : p ∉ qs
theorem Mx.set {H : Hp} {p q : Addr} {qs : List Addr} {M : Mat} {i : Nat} (h : Mx H p qs M) (hq : qs[i]? = some q) (r' : List Int) : Mx (upd H q (.lst (r'.map V.int))) p qs (M.set i r') := by
  have mem := List.mem_of_getElem? hq
  have npq : p ≠ q := fun z => h.out (z ▸ mem)
  refine ⟨by rw [upd_ne npq]; exact h.top, by rw [List.length_set]; exact h.len, fun j q2 r2 h1 h2 => ?_, h.nd, h.out⟩
  by_cases e : j = i
  · subst e
    rw [hq] at h1
    cases h1
    have hl : j < M.length := by have := (List.getElem?_eq_some_iff.mp h2).1; rw [List.length_set] at this; exact this
    rw [List.getElem?_set_self hl] at h2
    cases h2
    exact upd_same
  · rw [List.getElem?_set_ne (fun z => e z.symm)] at h2
    have ne : q2 ≠ q := fun z => e (by
      subst z
      obtain ⟨h3, e3⟩ := List.getElem?_eq_some_iff.mp h1
      obtain ⟨h4, e4⟩ := List.getElem?_eq_some_iff.mp hq
      exact (List.getElem_inj h.nd).mp (e3.trans e4.symm))
    rw [upd_ne ne]
    exact h.row j q2 r2 h1 h2
structure Keep (M : Option Mc) (X0 : List Addr) (H H' : Hp) : Prop where
  ob : ∀ a o, a ∉ Ml M → H a = some o → NoTb o → H' a = some o
  tb : TbK H H'
  old : ∀ a ∈ X0, H' a = H a
theorem Keep.at {M : Option Mc} {X0 : List Addr} {H H' : Hp} (k : Keep M X0 H H') {a : Addr} {o : HO} (n : a ∉ Ml M) (e : H a = some o) (h : NoTb o := by intro _ z; cases z) : H' a = some o := k.ob a o n e h
theorem Keep.refl {M : Option Mc} {X0 : List Addr} {H : Hp} : Keep M X0 H H := ⟨fun _ _ _ h _ => h, .refl, fun _ _ => rfl⟩
theorem Keep.trans {M : Option Mc} {X0 : List Addr} {H H1 H2 : Hp} (a : Keep M X0 H H1) (b : Keep M X0 H1 H2) : Keep M X0 H H2 := ⟨fun x o n h t => b.ob x o n (a.ob x o n h t) t, a.tb.trans b.tb, fun x h => (b.old x h).trans (a.old x h)⟩
theorem Keep.new {M : Option Mc} {X0 : List Addr} {H H1 : Hp} {p : Addr} {o : HO} (k : Keep M X0 H H1) (xs : ∀ a ∈ X0, H a ≠ none) (h : H1 p = none) : Keep M X0 H (upd H1 p o) := ⟨fun a u n e t => by rw [upd_ne (ne_of_none (k.ob a u n e t) h)]; exact k.ob a u n e t, k.tb.trans (.new h), fun a ha => by
  rw [upd_ne (fun z => xs a ha (by rw [← k.old a ha, z]; exact h))]; exact k.old a ha⟩
theorem Keep.mut {M : Option Mc} {X0 : List Addr} {H H1 : Hp} {p : Addr} {o : HO} (k : Keep M X0 H H1) (xs : ∀ a ∈ X0, H a ≠ none) (h : H p = none) (tb : TbK H1 (upd H1 p o)) : Keep M X0 H (upd H1 p o) := ⟨fun a u n e t => by rw [upd_ne (ne_of_none e h)]; exact k.ob a u n e t, k.tb.trans tb, fun a ha => by
  rw [upd_ne (fun z => xs a ha (by rw [z]; exact h))]; exact k.old a ha⟩
theorem Keep.rep {c : C} {s : S} {σ : L2.St} {H2 : Hp} (r : Rep c s σ H2) (xm : ∀ a ∈ c.X0, a ∉ Ml c.M) (xs : ∀ a ∈ c.X0, c.H0 a ≠ none) : Keep c.M c.X0 c.H0 H2 := ⟨fun a o n e t => by
  by_cases z : a ∈ c.X0
  · rw [r.old a z n (xs a z)]; exact e
  · exact (wo_ne (r.sub a o (wo_of (fun y => (List.mem_append.mp y).elim n z) e t))).2, r.tb, fun a ha => r.old a ha (xm a ha) (xs a ha)⟩
theorem Keep.fresh {M : Option Mc} {X0 : List Addr} {H H' : Hp} (k : Keep M X0 H H') {a : Addr} (n : a ∉ Ml M) (h : H' a = none) : H a = none := by
  cases e : H a with
  | none => rfl
  | some o =>
    by_cases t : NoTb o
    · rw [k.ob a o n e t] at h; cases h
    · refine (t fun ps z => ?_).elim
      subst z
      obtain ⟨qs, q⟩ := k.tb.tbl a ps e
      rw [h] at q; cases q
theorem rep_of {K : PySem.W.Frag} {M : Option Mc} {X0 : List Addr} {H : Hp} {σ : L2.St} {sl : List Sl} {k : Nat} (xm : ∀ a ∈ X0, a ∉ Ml M) (xs : ∀ a ∈ X0, H a ≠ none) (xt : ∀ a ∈ X0, ∀ ps, H a ≠ some (.tbl ps)) (hl : sl.length = σ.length) (hm : MAt M H k) (h : ∀ (i : Nat) (x : Sl), sl[i]? = some x → SlOk ⟨K, M, X0, H, []⟩ X0 H σ[i]? x)
    (no : ∀ (i : Nat) (p : Addr) (ds : List D), sl[i]? ≠ some (.own p ds)) : Rep ⟨K, M, X0, H, []⟩ ⟨X0, sl, k⟩ σ H :=
  ⟨Sub.refl _, fun _ _ _ _ => rfl, fun _ h => h, xm, xs, hm, h, fun i j p q ds es e _ _ => absurd e (no i p ds), hl, .refl, xt⟩
def kin (n : Nat) (f : Bool) (c : Nat) : Int := if f = true ∧ c + 2 = n then 4 else 3
def pmE (n : Nat) (f : Bool) (a i j : Nat) : Int := if i = j then 1 else if j = i + 1 ∧ i < a then kin n f i else if i = j + 1 ∧ j < a then kin n f j else 2
def pm (n : Nat) (f : Bool) (a : Nat) : Mat := (List.range n).map fun i => (List.range n).map fun j => pmE n f a i j
theorem RlA_of {K : PySem.W.Frag} {A : Hp} : ∀ {vs : List V} {ds : List D}, vs.length = ds.length → (∀ (i : Nat) (v : V) (d : D), vs[i]? = some v → ds[i]? = some d → Rl K A v d) → RlA K A vs ds
  | [], [], _, _ => .nil
  | [], _ :: _, h, _ => by cases h
  | _ :: _, [], h, _ => by cases h
  | v :: vs, d :: ds, h, f => .cons (f 0 v d rfl rfl) (RlA_of (Nat.succ.inj h) fun i x y h1 h2 => f (i + 1) x y h1 h2)
theorem Mx.rl {K : PySem.W.Frag} {H : Hp} {p : Addr} {qs : List Addr} {M : Mat} {hid : List Addr} (h : Mx H p qs M) (hp : p ∉ hid) (hq : ∀ q ∈ qs, q ∉ hid) : Rl K (wo H hid) (.ref p) (lM M) := by
  refine .lst (wo_of hp h.top) (RlA_of (by rw [List.length_map, List.length_map]; exact h.len) fun i v d h1 h2 => ?_)
  rw [List.getElem?_map] at h1 h2
  obtain ⟨q, hq1, rfl⟩ := Option.map_eq_some_iff.mp h1
  obtain ⟨r, hr, rfl⟩ := Option.map_eq_some_iff.mp h2
  exact .lst (wo_of (hq q (List.mem_of_getElem? hq1)) (h.row i q r hq1 hr)) (RlA.ints r)
theorem Keep.aft {K : PySem.W.Frag} {M : Option Mc} {X0 : List Addr} {H H' : Hp} {k : Nat} (h : Keep M X0 H H') (hm : MAt M H' k) : Aft K M X0 H H' k := by
  refine ⟨fun a o e => ?_, h.old, hm, h.tb⟩
  have t := wo_tb e
  obtain ⟨n, e⟩ := wo_ne e
  exact wo_of n (h.ob a o (fun z => n (List.mem_append_left _ z)) e t) t
theorem seqAsg {te : TE} {g : TG} {u : TS} {D : Ends} {σ : L2.St} {H : Hp} (h : te σ H fun x H1 => g x σ H1 (u D)) : tSeq (tAsg te g) u D σ H := h
theorem Mx.keepT {H : Hp} {p : Addr} {qs : List Addr} {M : Mat} {T : Addr} {o : HO} (h : Mx H p qs M) (hT : H T = none) : Mx (upd H T o) p qs M :=
  ⟨by rw [upd_ne (ne_of_none h.top hT)]; exact h.top, h.len, fun i q r h1 h2 => by rw [upd_ne (ne_of_none (h.row i q r h1 h2) hT)]; exact h.row i q r h1 h2, h.nd, h.out⟩
theorem set_range {β : Type} {n : Nat} {g g' : Nat → β} {i : Nat} {v : β} (h : ∀ j, j < n → g' j = if j = i then v else g j) : ((List.range n).map g).set i v = (List.range n).map g' := by
  refine List.ext_getElem? fun j => ?_
  rw [List.getElem?_set]
  by_cases hj : j < n
  · rw [List.length_map, List.length_range, List.getElem?_map, List.getElem?_map, List.getElem?_range hj]
    by_cases e : i = j
    · subst e
      rw [if_pos rfl, if_pos hj]
      show some v = some (g' i)
      rw [h i hj, if_pos rfl]
    · rw [if_neg e]
      show some (g j) = some (g' j)
      rw [h j hj, if_neg (fun z => e z.symm)]
  · have e1 : ((List.range n).map g)[j]? = none := by rw [List.getElem?_map, List.getElem?_eq_none (by rw [List.length_range]; omega)]; rfl
    have e2 : ((List.range n).map g')[j]? = none := by rw [List.getElem?_map, List.getElem?_eq_none (by rw [List.length_range]; omega)]; rfl
    rw [e1, e2]
    by_cases e : i = j
    · rw [if_pos e, if_neg (by rw [List.length_map, List.length_range]; omega)]
    · rw [if_neg e]
theorem getD_range {β : Type} {n i : Nat} {g : Nat → β} {d : β} (h : i < n) : ((List.range n).map g).getD i d = g i := by
  rw [List.getD_eq_getElem?_getD, List.getElem?_map, List.getElem?_range h]
  rfl
end BW
namespace BW
open PySem L2 DL
theorem ix_succ (i : Nat) : ix ((i : Int) + 1) = i := by unfold ix; omega
theorem ext_getD {p q : List Int} (hl : p.length = q.length) (h : ∀ j, j < p.length → p.getD j 0 = q.getD j 0) : p = q := by
  refine List.ext_getElem? fun j => ?_
  by_cases hj : j < p.length
  · rw [getD_get (d := 0) hj, getD_get (d := 0) (by omega), h j hj]
  · rw [List.getElem?_eq_none (by omega), List.getElem?_eq_none (by omega)]
end BW
namespace BW
open PySem L2 DL
theorem wts_of {k : Int} (h : k = 2 ∨ k = 3 ∨ k = 4 ∨ k = 6 ∨ k = 0) : wts k = (0, 0) ∧ k = 2 ∨ wts k = (1, 1) ∧ k = 3 ∨ wts k = (1, 2) ∧ k = 4 ∨ wts k = (1, 3) ∧ k = 6 ∨ wts k = (2, 2) ∧ k = 0 := by
  rcases h with rfl | rfl | rfl | rfl | rfl
  · exact .inl ⟨rfl, rfl⟩
  · exact .inr (.inl ⟨rfl, rfl⟩)
  · exact .inr (.inr (.inl ⟨rfl, rfl⟩))
  · exact .inr (.inr (.inr (.inl ⟨rfl, rfl⟩)))
  · exact .inr (.inr (.inr (.inr ⟨rfl, rfl⟩)))
theorem wt_two {T : Mat} (ht : Tab T) {i j : Nat} (hi : i < T.length) (hj : j < T.length) (ne : i ≠ j) :
    (at2 T i j = 2 ∧ wt T i j = 0 ∧ wt T j i = 0) ∨ (at2 T i j = 3 ∧ wt T i j = 1 ∧ wt T j i = 1) ∨ (at2 T i j = 4 ∧ wt T i j = 1 ∧ wt T j i = 2) ∨ (at2 T i j = 4 ∧ wt T i j = 2 ∧ wt T j i = 1) ∨ (at2 T i j = 6 ∧ wt T i j = 1 ∧ wt T j i = 3) ∨ (at2 T i j = 6 ∧ wt T i j = 3 ∧ wt T j i = 1) ∨ (at2 T i j = 0 ∧ wt T i j = 2 ∧ wt T j i = 2) := by
  have sy := ht.sy i j hi hj
  have w1 : wt T i j = if i < j then (wts (at2 T i j)).1 else (wts (at2 T i j)).2 := by unfold wt; rw [if_neg ne]
  have w2 : wt T j i = if j < i then (wts (at2 T i j)).1 else (wts (at2 T i j)).2 := by unfold wt; rw [if_neg (fun z => ne z.symm), ← sy]
  by_cases h : i < j
  · rw [if_pos h] at w1
    rw [if_neg (by omega)] at w2
    rcases wts_of (ht.of i j hi hj ne) with ⟨e, e2⟩ | ⟨e, e2⟩ | ⟨e, e2⟩ | ⟨e, e2⟩ | ⟨e, e2⟩ <;> rw [e] at w1 w2 <;> simp only [] at w1 w2 <;> omega
  · rw [if_neg h] at w1
    rw [if_pos (by omega)] at w2
    rcases wts_of (ht.of i j hi hj ne) with ⟨e, e2⟩ | ⟨e, e2⟩ | ⟨e, e2⟩ | ⟨e, e2⟩ | ⟨e, e2⟩ <;> rw [e] at w1 w2 <;> simp only [] at w1 w2 <;> omega
theorem car_of {T : Mat} (ht : Tab T) : TT.Car T.length (wt T) := by
  refine ⟨fun i _ => by unfold wt; rw [if_pos rfl], fun i j hi hj ne => ?_⟩
  have := wt_two ht hi hj ne
  omega
def pg (n : Nat) (r : List Int) (x : TT.Vec) : Int := TT.sm (fun j => r.getD j 0 * x j) n
theorem pg_mv {n : Nat} {r : List Int} {x : TT.Vec} {t : Int} {b : Nat} (hb : b < n) : pg n r (TT.mv x t b) = pg n r x + r.getD b 0 * t := by
  unfold pg
  rw [TT.sm_congr (g := fun a => r.getD a 0 * x a + t * (r.getD a 0 * TT.eb b a)) (fun j _ => by rw [TT.mv_dif, Int.mul_add, Int.mul_left_comm]), TT.sm_add, TT.sm_mul, TT.sm_eb hb, Int.mul_comm t]
theorem press_get {T : Mat} {r : List Int} {i j : Nat} (hj : j < T.length) : (press T r i).getD j 0 = r.getD j 0 + wt T i j * r.getD i 0 := by unfold press; rw [getD_range hj]
theorem press_len (T : Mat) (r : List Int) (i : Nat) : (press T r i).length = T.length := by unfold press; rw [List.length_map, List.length_range]
theorem pg_press {T : Mat} {r : List Int} {x : TT.Vec} {i : Nat} (hi : i < T.length) : pg T.length (press T r i) x = pg T.length r (TT.sg T.length (wt T) i x) := by
  unfold TT.sg
  rw [pg_mv hi]
  unfold pg TT.pr
  rw [TT.sm_congr (g := fun j => r.getD j 0 * x j + r.getD i 0 * (wt T i j * x j)) (fun j hj => by
    rw [press_get hj, Int.add_mul, Int.mul_comm (wt T i j) (r.getD i 0), Int.mul_assoc]), TT.sm_add, TT.sm_mul]
def pl (T : Mat) (r : List Int) (w : List Int) : List Int := w.foldl (fun r a => press T r (ix a)) r
theorem row_pl (T : Mat) (w : List Int) : row T w = pl T (one T) w := rfl
theorem pl_len {T : Mat} : ∀ {w : List Int} {r : List Int}, r.length = T.length → (pl T r w).length = T.length
  | [], _, h => h
  | a :: w, r, h => pl_len (w := w) (press_len T r (ix a))
theorem ix_lt {n : Nat} {a : Int} (h : 1 ≤ a ∧ a ≤ n) : ix a < n := by unfold ix; omega
theorem lets_of {n : Nat} {w : List Int} (h : Wd n w) : TT.lets n (w.map ix) := fun a ha => by
  obtain ⟨z, hz, rfl⟩ := List.mem_map.mp ha
  exact ix_lt (h z hz)
theorem pg_pl {T : Mat} {x : TT.Vec} : ∀ {w : List Int} {r : List Int}, Wd T.length w → pg T.length (pl T r w) x = pg T.length r (TT.act T.length (wt T) (w.map ix) x)
  | [], _, _ => rfl
  | a :: w, r, h => by
    show pg T.length (pl T (press T r (ix a)) w) x = pg T.length r (TT.sg T.length (wt T) (ix a) (TT.act T.length (wt T) (w.map ix) x))
    rw [pg_pl (fun z hz => h z (List.mem_cons_of_mem _ hz)), pg_press (ix_lt (h a List.mem_cons_self))]
theorem pg_eb {n : Nat} {r : List Int} {c : Nat} (hc : c < n) : pg n r (TT.eb c) = r.getD c 0 := TT.sm_eb (f := fun j => r.getD j 0) hc
theorem pg_one {T : Mat} {x : TT.Vec} : pg T.length (one T) x = TT.sm x T.length := by
  refine TT.sm_congr fun j hj => ?_
  have : (one T).getD j 0 = 1 := by unfold one; rw [List.getD_eq_getElem?_getD, List.getElem?_replicate, if_pos hj]; rfl
  rw [this, Int.one_mul]
theorem row_hv {T : Mat} {w : List Int} (h : Wd T.length w) {c : Nat} (hc : c < T.length) : (row T w).getD c 0 = TT.hv T.length (wt T) (w.map ix) c := by
  rw [← pg_eb hc, row_pl, pg_pl h, pg_one]
  rfl
theorem one_len (T : Mat) : (one T).length = T.length := by unfold one; exact List.length_replicate
theorem row_eq_iff {T : Mat} {w v : List Int} (hw : Wd T.length w) (hv : Wd T.length v) : row T w = row T v ↔ TT.Rw T.length (wt T) (w.map ix) (v.map ix) := by
  constructor
  · intro h c hc
    rw [← row_hv hw hc, ← row_hv hv hc, h]
  · intro h
    refine ext_getD (by rw [row_length, row_length]) fun j hj => ?_
    rw [row_length] at hj
    rw [row_hv hw hj, row_hv hv hj]
    exact h j hj
theorem row_nz {T : Mat} (ht : Tab T) {w : List Int} (hw : Wd T.length w) {c : Nat} (hc : c < T.length) : (row T w).getD c 0 ≠ 0 := by
  rw [row_hv hw hc]
  exact TT.hv_ne (car_of ht) hc (lets_of hw)
theorem row_snoc {T : Mat} {w : List Int} {a : Int} : row T (w ++ [a]) = press T (row T w) (ix a) := by unfold row; rw [List.foldl_append]; rfl
theorem wd_app {n : Nat} {u v : List Int} (hu : Wd n u) (hv : Wd n v) : Wd n (u ++ v) := fun a ha => (List.mem_append.mp ha).elim (hu a) (hv a)
theorem wd_one {n : Nat} {i : Nat} (h : i < n) : Wd n [(i : Int) + 1] := fun a ha => by simp at ha; omega
abbrev LN (T : Mat) (w : List Int) (k : Nat) : Prop := TT.Ln T.length (wt T) (w.map ix) k
theorem fall_none {r : List Int} (h : fall r = []) {c : Nat} (hc : c < r.length) : 0 ≤ r.getD c 0 := by
  unfold fall at h
  have h2 := List.map_eq_nil_iff.mp h
  by_cases q : r.getD c 0 < 0
  · have : c ∈ (List.range r.length).filter fun i => decide (r.getD i 0 < 0) := List.mem_filter.mpr ⟨List.mem_range.mpr hc, decide_eq_true q⟩
    rw [h2] at this
    cases this
  · omega
theorem LN.none {T : Mat} (ht : Tab T) {w : List Int} (hw : Wd T.length w) {k : Nat} (h : LN T w k) (hf : fall (row T w) = []) : k = 0 ∧ row T w = one T := by
  have hk : k = 0 := h.of_pos (car_of ht) (lets_of hw) fun c hc => by
    have h1 := fall_none hf (c := c) (by rw [row_length]; exact hc)
    have h2 := row_nz ht hw hc
    rw [row_hv hw hc] at h1 h2
    omega
  refine ⟨hk, ext_getD (by rw [row_length, one_len]) fun j hj => ?_⟩
  rw [row_length] at hj
  rw [row_hv hw hj]
  subst hk
  rw [h.zero j hj]
  unfold one
  rw [List.getD_eq_getElem?_getD, List.getElem?_replicate, if_pos hj]
  rfl
theorem LN.step {T : Mat} (ht : Tab T) {w : List Int} (hw : Wd T.length w) {k : Nat} (h : LN T w k) {a : Int} (ha : a ∈ fall (row T w)) : ∃ j, k = j + 1 ∧ LN T (w ++ [a]) j ∧ Wd T.length (w ++ [a]) ∧ press T (row T w) (ix a) = row T (w ++ [a]) := by
  obtain ⟨i, rfl, hi, hn⟩ := fall_mem ha
  rw [row_length] at hi
  have ei : ix ((i : Int) + 1) = i := by unfold ix; omega
  rw [row_hv hw hi] at hn
  obtain ⟨j, e, hj⟩ := h.down (car_of ht) hi (lets_of hw) hn
  refine ⟨j, e, ?_, wd_app hw (wd_one hi), row_snoc.symm⟩
  show TT.Ln T.length (wt T) ((w ++ [(i : Int) + 1]).map ix) j
  rw [List.map_append, List.map_cons, List.map_nil, ei]
  exact hj
theorem wd_len {T : Mat} (ht : Tab T) : ∀ (k : Nat) {w : List Int} {f : Nat}, Wd T.length w → LN T w k → k ≤ f → (wd T f (row T w)).1.length = k ∧ (wd T f (row T w)).2 = one T
  | k, w, f, hw, h, hf => by
    cases e : fall (row T w) with
    | nil =>
      obtain ⟨rfl, e2⟩ := h.none ht hw e
      rw [wd_nil e]
      exact ⟨rfl, e2⟩
    | cons a q =>
      obtain ⟨j, rfl, h1, h2, h3⟩ := h.step ht hw (a := a) (by rw [e]; exact List.mem_cons_self)
      obtain ⟨g, rfl⟩ : ∃ g, f = g + 1 := ⟨f - 1, by omega⟩
      rw [wd_cons e, h3]
      obtain ⟨i1, i2⟩ := wd_len ht j (f := g) h2 h1 (by omega)
      refine ⟨?_, i2⟩
      show (wd T g (row T (w ++ [a]))).1.length + 1 = j + 1
      rw [i1]
theorem LN.has {T : Mat} {w : List Int} (hw : Wd T.length w) : ∃ k, LN T w k ∧ k ≤ w.length := by
  obtain ⟨k, h⟩ := TT.Ln.has (W := wt T) (lets_of hw)
  exact ⟨k, h, by have := h.le_len (lets_of hw); rw [List.length_map] at this; exact this⟩
section
variable {n : Nat} {W : Nat → Nat → Int}
theorem sgV_b (C : TT.Car n W) {b c : Nat} (hb : b < n) (hc : c < n) (ne : c ≠ b) {x : TT.Vec} {s t : Int} : TT.sg n W b (TT.VV x b c s t) = TT.VV x b c (TT.pr n W b x - s + W b c * t) t := by
  unfold TT.sg
  rw [TT.pr_mv hc, TT.pr_mv hb, C.dg b hb, TT.mv_comm ne, TT.mv_mv]
  congr 2
  omega
theorem sgV_c (C : TT.Car n W) {b c : Nat} (hb : b < n) (hc : c < n) {x : TT.Vec} {s t : Int} : TT.sg n W c (TT.VV x b c s t) = TT.VV x b c s (TT.pr n W c x + W c b * s - t) := by
  unfold TT.sg
  rw [TT.pr_mv hc, TT.pr_mv hb, C.dg c hc, TT.mv_mv]
  congr 1
  omega
theorem V00 {b c : Nat} {x : TT.Vec} : x = TT.VV x b c 0 0 := by
  show x = TT.mv (TT.mv x 0 b) 0 c
  rw [TT.mv_zero, TT.mv_zero]
def alN (a b : Nat) : Nat → List Nat
  | 0 => []
  | k + 1 => a :: alN b a k
theorem braid (C : TT.Car n W) {b c : Nat} (hb : b < n) (hc : c < n) (ne : b ≠ c) {m : Nat} (hm : (m = 2 ∧ W b c = 0 ∧ W c b = 0) ∨ (m = 3 ∧ W b c = 1 ∧ W c b = 1) ∨ (m = 4 ∧ W b c = 1 ∧ W c b = 2) ∨ (m = 4 ∧ W b c = 2 ∧ W c b = 1) ∨ (m = 6 ∧ W b c = 1 ∧ W c b = 3) ∨ (m = 6 ∧ W b c = 3 ∧ W c b = 1)) (x : TT.Vec) :
    TT.act n W (alN b c m) x = TT.act n W (alN c b m) x := by
  have hB := fun s t => sgV_b C hb hc (fun z => ne z.symm) (x := x) (s := s) (t := t)
  have hC := fun s t => sgV_c C hb hc (x := x) (s := s) (t := t)
  have h0 := V00 (b := b) (c := c) (x := x)
  generalize TT.pr n W b x = P at hB
  generalize TT.pr n W c x = Q at hC
  generalize hV : TT.VV x b c = V at *
  rcases hm with ⟨rfl, u, v⟩ | ⟨rfl, u, v⟩ | ⟨rfl, u, v⟩ | ⟨rfl, u, v⟩ | ⟨rfl, u, v⟩ | ⟨rfl, u, v⟩ <;> rw [u] at hB <;> rw [v] at hC <;> rw [h0] <;> unfold TT.act <;> simp only [alN, List.foldr_cons, List.foldr_nil, hB, hC] <;> congr 1 <;> omega
end
end BW
namespace DL
open PySem L2
open PySem.W (Frag)
theorem RlA.bls_v {K : Frag} {A : Hp} : ∀ {bs : List Bool} {vs : List V}, RlA K A vs (bs.map D.bl) → vs = bs.map V.bl
  | [], _, .nil => rfl
  | b :: r, _, .cons h q => by
    cases h
    rw [RlA.bls_v q]
    rfl
abbrev dAll (t : DE) : DE := fun s Q => t s fun d k => ∃ bs : List Bool, d = .lst (bs.map .bl) ∧ Q (.bl (bs.all id)) k
section
variable {X : Cx} {c : C} {p pos : Pos}
theorem pd_all (hK : c.K = X.K) (hm : X.mg "all" = none) (hc : X.calm = true) {e : Expr} {t : DE} (h : PE X e (LE c t)) (hg : Gl X "all" := by rfl) (hs : starEach [e] X.env = (false, eval e X.env) :: starEach [] X.env := by rfl) (hp : (backTo pos (starEach [] X.env)).any (·.1) = false := by rfl) :
    PE X (.Call (.Name "all" p) [e] [] pos) (LE c (dAll t)) :=
  (pe_callB (cr_all hc) hg hm (by first | exact PySem.boot_all | exact PyProof.Rows.boot_all | rfl) (pa_cons h pa_nil hs) (he := hs) (hpl := hp)).weak fun σ H Q ⟨s, R, rp, q, f⟩ => ⟨s, _, rp, q, fun d k ⟨bs, h1, h2⟩ v H1 r1 a1 e1 => by
    subst h1
    obtain ⟨a, vs, rfl, h, r⟩ := e1.lstE
    obtain rfl := r.bls_v
    exact ⟨a, bs, rfl, hK ▸ SqL.of (wo_sub _ _ _ _ h), f _ k h2 _ H1 r1 a1 (.bl _)⟩⟩
end
end DL
namespace BW
open PySem L2 DL
theorem alt_succ (a b : Int) (n : Nat) : alt a b (n + 1) = a :: alt b a n := by
  unfold alt
  rw [List.range_succ_eq_map, List.map_cons, List.map_map]
  congr 1
  refine List.map_congr_left fun i _ => ?_
  show (if (i + 1) % 2 = 0 then a else b) = if i % 2 = 0 then b else a
  by_cases h : i % 2 = 0
  · rw [if_pos h, if_neg (by omega)]
  · rw [if_neg h, if_pos (by omega)]
theorem alt_ix (i j : Nat) : ∀ n, (alt ((i : Int) + 1) ((j : Int) + 1) n).map ix = alN i j n
  | 0 => rfl
  | n + 1 => by
    rw [alt_succ, List.map_cons, alt_ix j i n]
    show ix ((i : Int) + 1) :: _ = i :: _
    rw [ix_succ]
theorem alt_wd {n : Nat} {a b : Int} (ha : 1 ≤ a ∧ a ≤ n) (hb : 1 ≤ b ∧ b ≤ n) (m : Nat) : Wd n (alt a b m) := fun z hz => by
  unfold alt at hz
  obtain ⟨i, _, rfl⟩ := List.mem_map.mp hz
  split
  · exact ha
  · exact hb
theorem alt_len (a b : Int) (n : Nat) : (alt a b n).length = n := by unfold alt; rw [List.length_map, List.length_range]
theorem pl_alt {T : Mat} (ht : Tab T) {r : List Int} (hr : r.length = T.length) {i j : Nat} (hi : i < T.length) (hj : j < T.length) (ne : i ≠ j) (h : 0 < at2 T i j) :
    pl T r (alt ((i : Int) + 1) ((j : Int) + 1) (at2 T i j).toNat) = pl T r (alt ((j : Int) + 1) ((i : Int) + 1) (at2 T i j).toNat) := by
  refine ext_getD (by rw [pl_len hr, pl_len hr]) fun c hc => ?_
  rw [pl_len hr] at hc
  have a1 : Wd T.length (alt ((i : Int) + 1) ((j : Int) + 1) (at2 T i j).toNat) := alt_wd ⟨by omega, by omega⟩ ⟨by omega, by omega⟩ _
  have a2 : Wd T.length (alt ((j : Int) + 1) ((i : Int) + 1) (at2 T i j).toNat) := alt_wd ⟨by omega, by omega⟩ ⟨by omega, by omega⟩ _
  have hm : ((at2 T i j).toNat = 2 ∧ wt T i j = 0 ∧ wt T j i = 0) ∨ ((at2 T i j).toNat = 3 ∧ wt T i j = 1 ∧ wt T j i = 1) ∨ ((at2 T i j).toNat = 4 ∧ wt T i j = 1 ∧ wt T j i = 2) ∨ ((at2 T i j).toNat = 4 ∧ wt T i j = 2 ∧ wt T j i = 1) ∨ ((at2 T i j).toNat = 6 ∧ wt T i j = 1 ∧ wt T j i = 3) ∨ ((at2 T i j).toNat = 6 ∧ wt T i j = 3 ∧ wt T j i = 1) := by
    rcases wt_two ht hi hj ne with ⟨e, u, v⟩ | ⟨e, u, v⟩ | ⟨e, u, v⟩ | ⟨e, u, v⟩ | ⟨e, u, v⟩ | ⟨e, u, v⟩ | ⟨e, u, v⟩
    · exact .inl ⟨by rw [e]; rfl, u, v⟩
    · exact .inr (.inl ⟨by rw [e]; rfl, u, v⟩)
    · exact .inr (.inr (.inl ⟨by rw [e]; rfl, u, v⟩))
    · exact .inr (.inr (.inr (.inl ⟨by rw [e]; rfl, u, v⟩)))
    · exact .inr (.inr (.inr (.inr (.inl ⟨by rw [e]; rfl, u, v⟩))))
    · exact .inr (.inr (.inr (.inr (.inr ⟨by rw [e]; rfl, u, v⟩))))
    · rw [e] at h; exact absurd h (by decide)
  rw [← pg_eb hc, ← pg_eb hc, pg_pl a1, pg_pl a2, alt_ix, alt_ix, braid (car_of ht) hi hj ne hm]
end BW
namespace BW
open PySem L2 DL
theorem step2 {T : Mat} (ht : Tab T) {w : List Int} (hw : Wd T.length w) {k : Nat} (h : LN T w k) {i j : Nat} (hi : i < T.length) (hj : j < T.length) {x y u : Int} (ex : (row T w).getD i 0 = x) (ey : (row T w).getD j 0 = y) (eu : wt T i j = u) (nx : x < 0) :
    ∃ l, k = l + 1 ∧ LN T (w ++ [(i : Int) + 1]) l ∧ Wd T.length (w ++ [(i : Int) + 1]) ∧ (row T (w ++ [(i : Int) + 1])).getD i 0 = -x ∧ (row T (w ++ [(i : Int) + 1])).getD j 0 = y + u * x := by
  have em : (w ++ [(i : Int) + 1]).map ix = w.map ix ++ [i] := by rw [List.map_append, List.map_cons, List.map_nil, ix_succ]
  have hn : TT.hv T.length (wt T) (w.map ix) i < 0 := by rw [← row_hv hw hi, ex]; exact nx
  obtain ⟨l, e, hl⟩ := h.down (car_of ht) hi (lets_of hw) hn
  have e1 : wt T i i = -2 := by unfold wt; rw [if_pos rfl]
  refine ⟨l, e, ?_, wd_app hw (wd_one hi), ?_, ?_⟩
  · show TT.Ln T.length (wt T) ((w ++ [(i : Int) + 1]).map ix) l
    rw [em]
    exact hl
  · rw [row_snoc, ix_succ, press_get hi, ex, e1]
    omega
  · rw [row_snoc, ix_succ, press_get hj, ex, ey, eu]
theorem LN.one_of {T : Mat} (ht : Tab T) {w : List Int} (hw : Wd T.length w) (h : LN T w 0) {i : Nat} (hi : i < T.length) : (row T w).getD i 0 = 1 := by
  rw [row_hv hw hi]
  exact TT.Ln.zero h i hi
theorem no_free {T : Mat} (ht : Tab T) {i j : Nat} (hi : i < T.length) (hj : j < T.length) (eu : wt T i j = 2) (ev : wt T j i = 2) : ∀ (k : Nat) {w : List Int}, Wd T.length w → LN T w k → (row T w).getD i 0 + (row T w).getD j 0 < 0 → False
  | 0, w, hw, h, s => by rw [h.one_of ht hw hi, h.one_of ht hw hj] at s; omega
  | k + 1, w, hw, h, s => by
    by_cases c : (row T w).getD i 0 < 0
    · obtain ⟨l, e, h1, h2, h3, h4⟩ := step2 ht hw h hi hj rfl rfl eu c
      obtain rfl : k = l := by omega
      exact no_free ht hi hj eu ev k h2 h1 (by rw [h3, h4]; omega)
    · obtain ⟨l, e, h1, h2, h3, h4⟩ := step2 ht hw h hj hi rfl rfl ev (by omega : (row T w).getD j 0 < 0)
      obtain rfl : k = l := by omega
      exact no_free ht hi hj eu ev k h2 h1 (by rw [h3, h4]; omega)
inductive Dn (T : Mat) : Nat → Nat → Nat → List Int → Nat → Prop
  | zero {i j : Nat} {w : List Int} {k : Nat} : LN T w k → Dn T i j 0 w k
  | succ {i j m : Nat} {w : List Int} {k : Nat} : Dn T j i m (w ++ [(i : Int) + 1]) k → Dn T i j (m + 1) w (k + 1)
theorem Dn.end_ {T : Mat} : ∀ {m i j : Nat} {w : List Int} {k : Nat}, Dn T i j m w k → ∃ l, k = l + m ∧ LN T (w ++ alt ((i : Int) + 1) ((j : Int) + 1) m) l
  | 0, i, j, w, k, h => by
    cases h with
    | zero h => exact ⟨k, rfl, by rw [show alt ((i : Int) + 1) ((j : Int) + 1) 0 = [] from rfl, List.append_nil]; exact h⟩
  | m + 1, i, j, w, _, h => by
    cases h with
    | succ h =>
      obtain ⟨l, e, hl⟩ := h.end_
      refine ⟨l, by omega, ?_⟩
      rw [alt_succ, show w ++ ((i : Int) + 1) :: alt ((j : Int) + 1) ((i : Int) + 1) m = (w ++ [(i : Int) + 1]) ++ alt ((j : Int) + 1) ((i : Int) + 1) m by rw [List.append_assoc]; rfl]
      exact hl
theorem dn_two {T : Mat} (ht : Tab T) {w : List Int} (hw : Wd T.length w) {k : Nat} (h : LN T w k) {i j : Nat} (hi : i < T.length) (hj : j < T.length) (ne : i ≠ j) (ni : (row T w).getD i 0 < 0) (nj : (row T w).getD j 0 < 0) :
    0 < at2 T i j ∧ Dn T i j (at2 T i j).toNat w k := by
  generalize ex : (row T w).getD i 0 = x at ni
  generalize ey : (row T w).getD j 0 = y at nj
  rcases wt_two ht hi hj ne with ⟨e, u, v⟩ | ⟨e, u, v⟩ | ⟨e, u, v⟩ | ⟨e, u, v⟩ | ⟨e, u, v⟩ | ⟨e, u, v⟩ | ⟨e, u, v⟩
  · rw [e]
    refine ⟨by decide, ?_⟩
    obtain ⟨k1, rfl, h1, w1, x1, y1⟩ := step2 ht hw h hi hj ex ey u ni
    obtain ⟨k2, rfl, h2, w2, x2, y2⟩ := step2 ht w1 h1 hj hi y1 x1 v (by omega)
    exact .succ (.succ (.zero h2))
  · rw [e]
    refine ⟨by decide, ?_⟩
    obtain ⟨k1, rfl, h1, w1, x1, y1⟩ := step2 ht hw h hi hj ex ey u ni
    obtain ⟨k2, rfl, h2, w2, x2, y2⟩ := step2 ht w1 h1 hj hi y1 x1 v (by omega)
    obtain ⟨k3, rfl, h3, w3, x3, y3⟩ := step2 ht w2 h2 hi hj y2 x2 u (by omega)
    exact .succ (.succ (.succ (.zero h3)))
  · rw [e]
    refine ⟨by decide, ?_⟩
    obtain ⟨k1, rfl, h1, w1, x1, y1⟩ := step2 ht hw h hi hj ex ey u ni
    obtain ⟨k2, rfl, h2, w2, x2, y2⟩ := step2 ht w1 h1 hj hi y1 x1 v (by omega)
    obtain ⟨k3, rfl, h3, w3, x3, y3⟩ := step2 ht w2 h2 hi hj y2 x2 u (by omega)
    obtain ⟨k4, rfl, h4, w4, x4, y4⟩ := step2 ht w3 h3 hj hi y3 x3 v (by omega)
    exact .succ (.succ (.succ (.succ (.zero h4))))
  · rw [e]
    refine ⟨by decide, ?_⟩
    obtain ⟨k1, rfl, h1, w1, x1, y1⟩ := step2 ht hw h hi hj ex ey u ni
    obtain ⟨k2, rfl, h2, w2, x2, y2⟩ := step2 ht w1 h1 hj hi y1 x1 v (by omega)
    obtain ⟨k3, rfl, h3, w3, x3, y3⟩ := step2 ht w2 h2 hi hj y2 x2 u (by omega)
    obtain ⟨k4, rfl, h4, w4, x4, y4⟩ := step2 ht w3 h3 hj hi y3 x3 v (by omega)
    exact .succ (.succ (.succ (.succ (.zero h4))))
  · rw [e]
    refine ⟨by decide, ?_⟩
    obtain ⟨k1, rfl, h1, w1, x1, y1⟩ := step2 ht hw h hi hj ex ey u ni
    obtain ⟨k2, rfl, h2, w2, x2, y2⟩ := step2 ht w1 h1 hj hi y1 x1 v (by omega)
    obtain ⟨k3, rfl, h3, w3, x3, y3⟩ := step2 ht w2 h2 hi hj y2 x2 u (by omega)
    obtain ⟨k4, rfl, h4, w4, x4, y4⟩ := step2 ht w3 h3 hj hi y3 x3 v (by omega)
    obtain ⟨k5, rfl, h5, w5, x5, y5⟩ := step2 ht w4 h4 hi hj y4 x4 u (by omega)
    obtain ⟨k6, rfl, h6, w6, x6, y6⟩ := step2 ht w5 h5 hj hi y5 x5 v (by omega)
    exact .succ (.succ (.succ (.succ (.succ (.succ (.zero h6))))))
  · rw [e]
    refine ⟨by decide, ?_⟩
    obtain ⟨k1, rfl, h1, w1, x1, y1⟩ := step2 ht hw h hi hj ex ey u ni
    obtain ⟨k2, rfl, h2, w2, x2, y2⟩ := step2 ht w1 h1 hj hi y1 x1 v (by omega)
    obtain ⟨k3, rfl, h3, w3, x3, y3⟩ := step2 ht w2 h2 hi hj y2 x2 u (by omega)
    obtain ⟨k4, rfl, h4, w4, x4, y4⟩ := step2 ht w3 h3 hj hi y3 x3 v (by omega)
    obtain ⟨k5, rfl, h5, w5, x5, y5⟩ := step2 ht w4 h4 hi hj y4 x4 u (by omega)
    obtain ⟨k6, rfl, h6, w6, x6, y6⟩ := step2 ht w5 h5 hj hi y5 x5 v (by omega)
    exact .succ (.succ (.succ (.succ (.succ (.succ (.zero h6))))))
  · exact (no_free ht hi hj u v k hw h (by rw [ex, ey]; omega)).elim
theorem row_alt {T : Mat} (ht : Tab T) {w : List Int} (hw : Wd T.length w) {i j : Nat} (hi : i < T.length) (hj : j < T.length) (ne : i ≠ j) (h : 0 < at2 T i j) :
    row T (w ++ alt ((i : Int) + 1) ((j : Int) + 1) (at2 T i j).toNat) = row T (w ++ alt ((j : Int) + 1) ((i : Int) + 1) (at2 T i j).toNat) := by
  have q := pl_alt ht (r := row T w) (row_length T w) hi hj ne h
  unfold pl at q
  unfold row at q ⊢
  rw [List.foldl_append, List.foldl_append]
  exact q
end BW
namespace L2G
open PySem PySem.Spec PyProof.Rows L2
structure FnG (P : Program) (w : World) (K : PySem.W.Frag) (mg : Str → Option Value) (base : Heap) (k : Nat) (f : Addr) (fd : FuncData) (ps : List Str) (sp : Sp) : Prop where
  len : ∀ vs H Q E, sp vs H Q E → vs.length = ps.length
  run : ∀ (A : Around) (ou : List Env) (s : Shared) (H : Hp) (ar : Args) (us : List Value) (vs : List V) (Q : VK) (E : XK), Room k A → A.guards = some [] → Env0 P w K mg base A ou s H → BindsTo s fd ar (ps.zip us) → Vals vs us → sp vs H Q E →
    codeAny (model P w) A (.call (.ref f) ar) (CR CX0 ou P w H s Q E) s
section
variable {P : Program} {w : World} {K : PySem.W.Frag} {mg : Str → Option Value} {base : Heap}
theorem FnG.of {k : Nat} {f : Addr} {fd : FuncData} {ps : List Str} {sp : Sp} (F : FnOk P w K mg base CX0 k f fd ps sp) : FnG P w K mg base k f fd ps sp :=
  ⟨F.len, fun A ou s H ar us vs Q E r _ e b v h => F.run A ou s H ar us vs Q E r e b v h⟩
theorem okG {x qual : Str} {st : Stmt} {f : Addr} {fd : FuncData} {N ps : List Str} {k : Nat} {sp : Sp} (F : Fun K x qual st f fd) (S : FnScope N ps (defScope st)) (ln : ∀ vs H Q E, sp vs H Q E → vs.length = ps.length)
    (bd : ∀ (cdv : Value) (A : Around) (ou : List Env) (s : Shared) (H : Hp) (vs : List V) (Q : VK) (E : XK), Room k (A.deeper (envOfC qual (defScope st) s.heap.objs.size f cdv)) → (A.deeper (envOfC qual (defScope st) s.heap.objs.size f cdv)).guards = some [] → sp vs H Q E →
      ∃ t, PSs (cxOf CX0 P w K mg base N qual (defScope st) f cdv A ou s H E).nox (defBody st) t ∧ t { nx := fun _ H' => Q .non H', rt := Q } (L2.start N vs) H) : FnG P w K mg base (k + 1) f fd ps sp := by
  obtain ⟨oc, od, kV, doc, pm, an, cdv, ct, osl, rfl, lk, cdok⟩ := F.ex
  refine ⟨ln, fun A ou s H ar us vs Q E room gu en bi rv hs => ?_⟩
  have lv := ln _ _ _ _ hs
  have inK : K.In s.heap := en.mod.kin.keeps fun a u z => (en.bs a u z).1
  have nlim : s.heap.NoLimit := en.mod.nolimit.keeps fun a u z => (en.bs a u z).1
  have kinds : ∀ y ∈ ps.zip us, (defScope st).names.lookup y.1 = some .local ∨ ((defScope st).names.lookup y.1 = some .cell ∧ ((cellsFrom (s.heap.objs.size + 1) (defScope st).names []).lookup y.1).isSome = true) := by
    rintro ⟨nm, vl⟩ hy
    exact (S.par nm (List.of_mem_zip hy).1).imp id fun z => ⟨z, PySem.W.cellsFrom_some _ _ _ (.inl z)⟩
  refine codeAny_call_function room.depth (inK _ _ lk) rfl S.co S.gen rfl (PySem.W.codeRec_of inK cdok) (bi _ _ _ _ ?_)
  refine wpAny_newFunctionEnv_cells S.kind kinds fun env same s1 ic => ?_
  subst same
  refine ⟨nlim.keeps ic.toInCall.keep, codeAny_func ?_⟩
  obtain ⟨t, walk, ends⟩ := bd cdv A ou s H vs Q E (room.deeper _) gu hs
  have I0 := inv_start (CX := CX0) (E := E) S room.hd en lv rv ic
  refine wpAny_mono (walk.nox.run [] s1 (L2.start N vs) H _ I0 ends) (fun fl s2 hfl => ?_) fun _ _ z => z
  cases fl with
  | ret u =>
    obtain ⟨v, τ, H2, J, r2, q2⟩ := hfl
    exact ⟨v, H2, J.os, J.bare, J.base, J.hok, r2, q2⟩
  | next =>
    obtain ⟨τ, H2, J, q2⟩ := hfl
    exact ⟨V.non, H2, J.os, J.bare, J.base, J.hok, rfl, q2⟩
  | brk =>
    obtain ⟨_, _, _, q2⟩ := hfl
    exact q2.elim
  | cont =>
    obtain ⟨_, _, _, q2⟩ := hfl
    exact q2.elim
end
section
variable {X : Cx} {k : Nat} {f : Addr} {fd : FuncData} {ps : List Str} {sp : Sp} {x : Str} {p pos : Pos} {e : Expr} {es : List Expr} {t : TA} {E : XK}
theorem run_G {pins : List (Addr × Obj)} {σ : L2.St} {H : Hp} {s : Shared} {Q : VK} {us : List Value} {vs : List V} (F : FnG X.prog X.w X.K X.mg X.base k f fd ps sp) (hr : Room k X.A) (gu : X.A.guards = some []) (hb : Binds X.K fd ps []) (hx : Passes CX0 X E)
    (I : Inv X pins σ H s) (r : Vals vs us) (h : sp vs H Q E) : wpAny (model X.prog X.w) X.A (call (.ref f) us) (EP X pins σ Q) X.xe s := by
  have lu : us.length = ps.length := by rw [← r.length]; exact F.len _ _ _ _ h
  have bi := hb s us I.kIn (by rw [List.append_nil]; exact lu)
  rw [List.append_nil] at bi
  refine wpAny_call (codeAny_mono (F.run X.A X.stack s H ⟨us, []⟩ us vs Q E hr gu I.env0 bi r h) fun out s2 hq => ?_)
  cases out with
  | error z => exact hx pins σ H s z s2 I hq
  | ok fl =>
    cases fl with
    | ret u => exact I.after hq
    | next => exact hq.elim
    | brk => exact hq.elim
    | cont => exact hq.elim
theorem pe_callG (F : FnG X.prog X.w X.K X.mg X.base k f fd ps sp) (hr : Room k X.A) (gu : X.A.guards = some []) (hg : Gl X x) (hm : X.mg x = some (.ref f)) (hk : PySem.W.keepIn X.K (.ref f) = true) (hb : Binds X.K fd ps []) (hx : Passes CX0 X E)
    (ha : PA X (e :: es) t) (hdb : (x == ("__debug__" : Str)) = false := by decide) (he : starEach (e :: es) X.env = (false, eval e X.env) :: starEach es X.env := by rfl) (hpl : (backTo pos (starEach es X.env)).any (·.1) = false := by rfl) :
    PE X (.Call (.Name x p) (e :: es) [] pos) (fun σ H Q => t σ H fun vs H1 => sp vs H1 Q E) := by
  refine ⟨fun pins s σ H Q I h => wpAny_Call_Name_kw (ld_glob I hg hm ?_ hdb)⟩
  exact PySem.W.callWith_K (h₀ := X.base) I.ok.mod.kin hk (thn (ha.run pos pins s σ H _ I h) fun us s1 ⟨vs, H1, I1, r, q⟩ => ⟨I1.kIn, run_G F hr gu hb hx I1 r q⟩) he hpl
end
end L2G
namespace DL
open PySem L2 L2G
open PySem.W (Frag)
mutual
def D.wg : D → Nat
  | .non => 4
  | .bl _ => 5
  | .int _ => 1921
  | .str x => (reprText x).length
  | .lst xs => wgA xs + 2
  | .tup xs => wgA xs + 4
  | .dic => 2
  | .ins _ _ _ => 0
  | .exc _ _ _ => 0
  | .dct _ _ => 0
def wgA : List D → Nat
  | [] => 0
  | d :: r => D.wg d + 2 + wgA r
end
mutual
def D.shw : D → Bool
  | .non => true
  | .bl _ => true
  | .int i => decide (i.natAbs.log2 < 1920)
  | .str _ => true
  | .lst xs => shwA xs
  | .tup xs => shwA xs
  | .dic => true
  | .ins _ _ _ => false
  | .exc _ _ _ => false
  | .dct _ _ => false
def shwA : List D → Bool
  | [] => true
  | d :: r => D.shw d && shwA r
end
theorem textFrom_up : ∀ (ts : List PySem.Str) (k : Nat) (acc : PySem.Str), (textFrom k acc ts).length ≤ acc.length + piled ts
  | [], _, acc => Nat.le_add_right _ _
  | t :: r, k, acc => by
    have ih := textFrom_up r (k + 1) (acc ++ (if k > 0 then ", " else "" : String) ++ t)
    have e : (acc ++ (if k > 0 then ", " else "" : String) ++ t).length = acc.length + (if k > 0 then 2 else 0) + t.length := by
      rw [strLen_append, strLen_append]
      split <;> rfl
    rw [e] at ih
    rw [piled_cons]
    show (textFrom (k + 1) _ r).length ≤ _
    have : (if k > 0 then 2 else 0 : Nat) ≤ 2 := by split <;> omega
    omega
theorem listText_up (ts : List PySem.Str) : (listText ts).length ≤ piled ts + 2 := by
  unfold listText
  rw [strLen_append]
  have := textFrom_up ts 0 "["
  have e1 : (("[" : String) : PySem.Str).length = 1 := rfl
  have e2 : (("]" : String) : PySem.Str).length = 1 := rfl
  rw [e1] at this
  rw [e2]
  omega
theorem tupleText_up (ts : List PySem.Str) : (tupleText ts).length ≤ piled ts + 4 := by
  unfold tupleText
  rw [strLen_append, strLen_append]
  have e1 : ((("(" : String) : PySem.Str)).length = 1 := rfl
  have e3 : (((if ts.length == 1 then ",)" else ")" : String) : PySem.Str)).length ≤ 2 := by split <;> decide
  rw [e1]
  cases ts with
  | nil => show 1 + 0 + _ ≤ _; omega
  | cons t r =>
    have := join_length_add (t :: r) (by simp)
    omega
structure CalG (P : Program) (w : World) (K : Frag) (mg : PySem.Str → Option Value) (base : Heap) (k : Nat) (x : PySem.Str) (hm : Bool) (sp : DSp) : Prop where
  ex : ∃ f fd ps, FnG P w K mg base k f fd ps (spD K hm sp) ∧ mg x = some (.ref f) ∧ PySem.W.keepIn K (.ref f) = true ∧ Binds K fd ps []
section
variable {X : Cx} {c : C} {k j : Nat} {x : PySem.Str} {sp : DSp} {p pos : Pos}
theorem pd_callG (hK : c.K = X.K) (F : CalG X.prog X.w X.K X.mg X.base k x false sp) (gu : X.A.guards = some []) (hr : Room j X.A) (hk : k ≤ j) {e : Expr} {es : List Expr} {t : DA} (ha : PA X (e :: es) (LA c t)) (hg : Gl X x := by rfl) (hdb : (x == ("__debug__" : PySem.Str)) = false := by decide) (he : starEach (e :: es) X.env = (false, eval e X.env) :: starEach es X.env := by rfl) (hpl : (backTo pos (starEach es X.env)).any (·.1) = false := by rfl) :
    PE X (.Call (.Name x p) (e :: es) [] pos) (LE c (dCall sp t)) := by
  obtain ⟨f, fd, ps, G, hm, kp, b⟩ := F.ex
  refine (pe_callG (E := E0) G (hr.mono hk) gu hg hm kp b pass0 ha hdb he hpl).weak fun σ H Q ⟨s, R, rp, q, fn⟩ => ⟨s, _, rp, q, fun ds k1 h1 vs H1 r1 a1 e1 => ?_⟩
  refine ⟨none, Ml c.M ++ s.X, 0, ds, vs, _, ⟨rfl, rfl⟩, ⟨fun a _ => by simp [Ml], r1.allHid, trivial, hK ▸ e1, r1.allTb⟩, h1, fun d k' hR v H' af er => ?_⟩
  have z := Rep.after (s := s.at k1) r1 ⟨af.sub, af.old, af.m, af.tb⟩
  exact fn d k1 hR v H' z.1 (a1.trans z.2) (hK ▸ er)
end
section
variable {P : Program} {w : World} {K : Frag} {mg : PySem.Str → Option Value} {base : Heap}
theorem okDG {x qual : PySem.Str} {st : Stmt} {f : Addr} {fd : FuncData} {N ps : List PySem.Str} {k : Nat} {hm : Bool} {sp : DSp} (F : Fun K x qual st f fd) (Sc : FnScope N ps (defScope st)) (ow : List Nat)
    (len : ∀ ds k R, sp ds k R → ds.length + (match hm with | true => 1 | false => 0) = ps.length)
    (body : ∃ t : DS, (∀ (cdv : Value) (A : Around) (outer : List Env) (s : Shared) (H : Hp) (E : XK) (M : Option Mc) (X0 : List Addr), (A.deeper (PyProof.Rows.envOfC qual (defScope st) s.heap.objs.size f cdv)).guards = some [] → Room k (A.deeper (PyProof.Rows.envOfC qual (defScope st) s.heap.objs.size f cdv)) →
        PSs (cxOf CX0 P w K mg base N qual (defScope st) f cdv A outer s H E).nox (defBody st) (LS ⟨K, M, X0, H, ow⟩ t)) ∧
      ∀ X ds k R, sp ds k R → t { nx := fun s => R .non s.k, rt := R } ⟨X, init hm N.length ds, k⟩) :
    FnG P w K mg base (k + 1) f fd ps (spD K hm sp) := by
  obtain ⟨t, hb, hr⟩ := body
  have lens : ∀ vs H Q E, spD K hm sp vs H Q E → vs.length = ps.length := fun vs H Q E ⟨M, X0, k, ds, ws, R, h1, a, h2, h3⟩ => by
    have q := len ds k R h2
    have l := a.args.len
    cases hm with
    | false =>
      obtain ⟨_, rfl⟩ := h1
      rw [l]
      exact q
    | true =>
      obtain ⟨m, _, rfl⟩ := h1
      rw [List.length_cons, l]
      exact q
  refine okG F Sc lens fun cdv A outer s H vs Q E room gu h => ?_
  have hl := lens _ _ _ _ h
  obtain ⟨M, X0, k', ds, ws, R, h1, a, h2, h3⟩ := h
  have hpl : ps.length ≤ N.length := by have := congrArg List.length Sc.pre; rw [List.length_take] at this; omega
  refine ⟨LS ⟨K, M, X0, H, ow⟩ t, hb cdv A outer s H E M X0 gu room, ⟨X0, init hm N.length ds, k'⟩, _, init_rep (c := ⟨K, M, X0, H, ow⟩) rfl h1 a (by omega), hr X0 ds k' R h2, ?_⟩
  have fin : ∀ d k v H', Fin ⟨K, M, X0, H, ow⟩ H' k → Rl K (wo H' (Ml M ++ X0)) v d → R d k → Q v H' := fun d k v H' fi e r => h3 d k r v H' ⟨fi.sub, fun b hb => fi.old b hb (a.xm b hb) (a.xs b hb), fi.m, fi.tb⟩ e
  exact ⟨fun s' σ' H' r _ q => fin .non s'.k .non H' r.fin .non q, fun _ _ _ _ _ q => q, fun _ _ _ _ _ q => q, fun d k v H' fi e r => fin d k v H' fi e r⟩
end
end DL
namespace L2G
open PySem PySem.Spec PyProof.Rows L2 HT
end L2G
namespace DL
open PySem L2 L2G
open PySem.W (Frag)
section
variable {X : Cx} {c : C}
theorem pd_negc {i : Int} {kk : Nat} {p1 p2 : Pos} : PE X (.UnaryOp .USub (.Constant (.int i) kk p1) p2) (LE c (dC (.int (-i)))) :=
  (pe_un un_neg pe_int).weak fun σ H Q ⟨s, R, rp, q, f⟩ => ⟨i, rfl, f _ _ q _ H rp AdvE.refl (.int _)⟩
end
end DL
namespace BW
open PySem L2 DL
def un (T : Mat) : Nat → List Int → List Int
  | 0, _ => []
  | n + 1, r => match (fall r).getLast? with
    | none => []
    | some a => a :: un T n (press T r (ix a))
theorem wd_rev {n : Nat} {w : List Int} (h : Wd n w) : Wd n w.reverse := fun a ha => h a (List.mem_reverse.mp ha)
theorem LN.rev {T : Mat} (ht : Tab T) {w : List Int} (hw : Wd T.length w) {k : Nat} (h : LN T w k) : LN T w.reverse k := by
  have := TT.Ln.rev (car_of ht) (lets_of hw) h
  rw [← List.map_reverse] at this
  exact this
theorem mem_fall {r : List Int} {i : Nat} (hi : i < r.length) : ((i : Int) + 1) ∈ fall r ↔ r.getD i 0 < 0 := by
  unfold fall
  rw [List.mem_map]
  constructor
  · rintro ⟨j, hj, e⟩
    obtain ⟨_, h2⟩ := List.mem_filter.mp hj
    have : j = i := by omega
    rw [← this]
    exact of_decide_eq_true h2
  · intro h
    exact ⟨i, List.mem_filter.mpr ⟨List.mem_range.mpr hi, decide_eq_true h⟩, rfl⟩
theorem LN.more {T : Mat} (ht : Tab T) {w : List Int} (hw : Wd T.length w) {k : Nat} (h : LN T w k) {i : Nat} (hi : i < T.length) :
    if ((i : Int) + 1) ∈ fall (row T w) then 1 ≤ k ∧ LN T (w ++ [(i : Int) + 1]) (k - 1) else LN T (w ++ [(i : Int) + 1]) (k + 1) := by
  have em : (w ++ [(i : Int) + 1]).map ix = w.map ix ++ [i] := by rw [List.map_append, List.map_cons, List.map_nil, ix_succ]
  have hr : i < (row T w).length := by rw [row_length]; exact hi
  by_cases c : ((i : Int) + 1) ∈ fall (row T w)
  · rw [if_pos c]
    obtain ⟨j, e, hj, _, _⟩ := h.step ht hw c
    exact ⟨by omega, by rw [e]; exact hj⟩
  · rw [if_neg c]
    have nz := row_nz ht hw hi
    have np : 0 < TT.hv T.length (wt T) (w.map ix) i := by
      rw [← row_hv hw hi]
      have := (not_congr (mem_fall hr)).mp c
      omega
    show TT.Ln T.length (wt T) ((w ++ [(i : Int) + 1]).map ix) (k + 1)
    rw [em]
    exact TT.Ln.up (car_of ht) hi (lets_of hw) h np
theorem LN.ahead {T : Mat} (ht : Tab T) {w : List Int} (hw : Wd T.length w) {k : Nat} (h : LN T w k) {i : Nat} (hi : i < T.length) :
    if ((i : Int) + 1) ∈ fall (row T w.reverse) then 1 ≤ k ∧ LN T (((i : Int) + 1) :: w) (k - 1) else LN T (((i : Int) + 1) :: w) (k + 1) := by
  have m := LN.more ht (wd_rev hw) (h.rev ht hw) hi
  have wr : Wd T.length (w.reverse ++ [(i : Int) + 1]) := wd_app (wd_rev hw) (wd_one hi)
  have er : (w.reverse ++ [(i : Int) + 1]).reverse = ((i : Int) + 1) :: w := by rw [List.reverse_append, List.reverse_reverse]; rfl
  by_cases c : ((i : Int) + 1) ∈ fall (row T w.reverse)
  · rw [if_pos c] at m ⊢
    have := LN.rev ht wr m.2
    rw [er] at this
    exact ⟨m.1, this⟩
  · rw [if_neg c] at m ⊢
    have := LN.rev ht wr m
    rw [er] at this
    exact this
theorem len60 {T : Mat} (ht : Tab T) {w : List Int} (hw : Wd T.length w) {k : Nat} (h : LN T w k) (hk : k ≤ 60) : (wd T 60 (row T w)).1.length = k := (wd_len ht k hw h hk).1
theorem inV_mem {a : Int} : ∀ {ns : List Int}, inV (D.int a).v ((ns.map D.int).map D.v) = decide (a ∈ ns)
  | [] => rfl
  | b :: r => by
    have ih := inV_mem (a := a) (ns := r)
    unfold inV at ih ⊢
    rw [List.map_cons, List.map_cons, List.any_cons, ih]
    show ((b == a) || _) = _
    by_cases e : a = b
    · subst e; simp
    · have : (b == a) = false := by simpa using fun z => e z.symm
      rw [this]
      simp [e]
end BW
namespace BW
open PySem L2 DL
def Tn1 (T : Mat) (u v : List Int) : Prop := ∃ (p s : List Int) (i j : Nat), i < T.length ∧ j < T.length ∧ i ≠ j ∧ 0 < at2 T i j ∧ u = p ++ alt ((i : Int) + 1) ((j : Int) + 1) (at2 T i j).toNat ++ s ∧ v = p ++ alt ((j : Int) + 1) ((i : Int) + 1) (at2 T i j).toNat ++ s
inductive Tn (T : Mat) : List Int → List Int → Prop
  | refl {u : List Int} : Tn T u u
  | step {u v w : List Int} : Tn1 T u v → Tn T v w → Tn T u w
theorem Tn.trans {T : Mat} {u v w : List Int} (h : Tn T u v) (g : Tn T v w) : Tn T u w := by
  induction h with
  | refl => exact g
  | step a _ ih => exact .step a (ih g)
theorem Tn1.symm {T : Mat} (ht : Tab T) {u v : List Int} (h : Tn1 T u v) : Tn1 T v u := by
  obtain ⟨p, s, i, j, hi, hj, ne, b, e1, e2⟩ := h
  have sy := ht.sy i j hi hj
  exact ⟨p, s, j, i, hj, hi, fun z => ne z.symm, by rw [← sy]; exact b, by rw [← sy]; exact e2, by rw [← sy]; exact e1⟩
theorem Tn.symm {T : Mat} (ht : Tab T) {u v : List Int} (h : Tn T u v) : Tn T v u := by
  induction h with
  | refl => exact .refl
  | step a _ ih => exact ih.trans (.step (a.symm ht) .refl)
theorem Tn1.app {T : Mat} {u v : List Int} (h : Tn1 T u v) (z : List Int) : Tn1 T (u ++ z) (v ++ z) := by
  obtain ⟨p, s, i, j, hi, hj, ne, b, e1, e2⟩ := h
  exact ⟨p, s ++ z, i, j, hi, hj, ne, b, by rw [e1, List.append_assoc], by rw [e2, List.append_assoc]⟩
theorem Tn.app {T : Mat} {u v : List Int} (h : Tn T u v) (z : List Int) : Tn T (u ++ z) (v ++ z) := by
  induction h with
  | refl => exact .refl
  | step a _ ih => exact .step (a.app z) ih
theorem alt_rev {T : Mat} (ht : Tab T) {i j : Nat} (hi : i < T.length) (hj : j < T.length) (ne : i ≠ j) (h : 0 < at2 T i j) :
    ((alt ((i : Int) + 1) ((j : Int) + 1) (at2 T i j).toNat).reverse = alt ((i : Int) + 1) ((j : Int) + 1) (at2 T i j).toNat ∧ (alt ((j : Int) + 1) ((i : Int) + 1) (at2 T i j).toNat).reverse = alt ((j : Int) + 1) ((i : Int) + 1) (at2 T i j).toNat) ∨
    ((alt ((i : Int) + 1) ((j : Int) + 1) (at2 T i j).toNat).reverse = alt ((j : Int) + 1) ((i : Int) + 1) (at2 T i j).toNat ∧ (alt ((j : Int) + 1) ((i : Int) + 1) (at2 T i j).toNat).reverse = alt ((i : Int) + 1) ((j : Int) + 1) (at2 T i j).toNat) := by
  rcases ht.of i j hi hj ne with e | e | e | e | e
  · rw [e]; exact .inr ⟨rfl, rfl⟩
  · rw [e]; exact .inl ⟨rfl, rfl⟩
  · rw [e]; exact .inr ⟨rfl, rfl⟩
  · rw [e]; exact .inr ⟨rfl, rfl⟩
  · rw [e] at h; exact absurd h (by decide)
theorem turn_rev {T : Mat} (ht : Tab T) {i j : Nat} (hi : i < T.length) (hj : j < T.length) (ne : i ≠ j) (h : 0 < at2 T i j) (z : List Int) :
    Tn1 T (z ++ (alt ((i : Int) + 1) ((j : Int) + 1) (at2 T i j).toNat).reverse) (z ++ (alt ((j : Int) + 1) ((i : Int) + 1) (at2 T i j).toNat).reverse) := by
  rcases alt_rev ht hi hj ne h with ⟨a, b⟩ | ⟨a, b⟩
  · rw [a, b]
    exact ⟨z, [], i, j, hi, hj, ne, h, by rw [List.append_nil], by rw [List.append_nil]⟩
  · rw [a, b]
    exact Tn1.symm ht ⟨z, [], i, j, hi, hj, ne, h, by rw [List.append_nil], by rw [List.append_nil]⟩
theorem LN.cong {T : Mat} {u v : List Int} (hu : Wd T.length u) (hv : Wd T.length v) {k : Nat} (h : LN T u k) (e : row T u = row T v) : LN T v k := TT.Ln.cong h ((row_eq_iff hu hv).mp e)
theorem LN.uniq {T : Mat} {u : List Int} {j k : Nat} (a : LN T u j) (b : LN T u k) : j = k := TT.Ln.uniq a b
abbrev Sh (T : Mat) (w : List Int) : Prop := LN T w w.length
theorem row_app {T : Mat} {u v z : List Int} (e : row T u = row T v) : row T (u ++ z) = row T (v ++ z) := by
  unfold row at e ⊢
  rw [List.foldl_append, List.foldl_append, e]
theorem row_undo {T : Mat} (ht : Tab T) {w : List Int} {i : Nat} (hi : i < T.length) : row T (w ++ [(i : Int) + 1] ++ [(i : Int) + 1]) = row T w := by
  have e1 : wt T i i = -2 := by unfold wt; rw [if_pos rfl]
  refine ext_getD (by rw [row_length, row_length]) fun c hc => ?_
  rw [row_length] at hc
  rw [row_snoc, row_snoc, ix_succ, press_get hc, press_get hc, press_get hi, e1]
  rw [show (row T w).getD i 0 + -2 * (row T w).getD i 0 = -((row T w).getD i 0) by omega, Int.mul_neg]
  omega
theorem row_cancel {T : Mat} (ht : Tab T) {u v : List Int} {i : Nat} (hi : i < T.length) (e : row T (u ++ [(i : Int) + 1]) = row T (v ++ [(i : Int) + 1])) : row T u = row T v := by
  have := row_app (z := [(i : Int) + 1]) e
  rw [row_undo ht hi, row_undo ht hi] at this
  exact this
theorem Sh.last {T : Mat} (ht : Tab T) {w : List Int} {i : Nat} (hi : i < T.length) (hw : Wd T.length w) (h : Sh T (w ++ [(i : Int) + 1])) : (row T (w ++ [(i : Int) + 1])).getD i 0 < 0 ∧ Sh T w := by
  obtain ⟨k, hk, hl⟩ := LN.has hw
  have m := LN.more ht hw hk hi
  have el : (w ++ [(i : Int) + 1]).length = w.length + 1 := by rw [List.length_append]; rfl
  have e1 : wt T i i = -2 := by unfold wt; rw [if_pos rfl]
  by_cases c : ((i : Int) + 1) ∈ fall (row T w)
  · rw [if_pos c] at m
    have := h.uniq m.2
    omega
  · rw [if_neg c] at m
    have := h.uniq m
    have ek : k = w.length := by omega
    have nz := row_nz ht hw hi
    have nn := (not_congr (mem_fall (r := row T w) (i := i) (by rw [row_length]; exact hi))).mp c
    refine ⟨?_, by rw [ek] at hk; exact hk⟩
    rw [row_snoc, ix_succ, press_get hi, e1]
    omega
theorem snoc_cases {T : Mat} {w : List Int} (hw : Wd T.length w) : w = [] ∨ ∃ (v : List Int) (i : Nat), i < T.length ∧ Wd T.length v ∧ w = v ++ [(i : Int) + 1] := by
  rcases List.eq_nil_or_concat w with e | ⟨v, a, e⟩
  · exact .inl e
  · rw [List.concat_eq_append] at e
    subst e
    have ha := hw a (by simp)
    refine .inr ⟨v, (a - 1).toNat, by omega, fun z hz => hw z (by simp [hz]), ?_⟩
    rw [show ((a - 1).toNat : Int) + 1 = a by omega]
theorem alt_pos {T : Mat} (ht : Tab T) {i j : Nat} (hi : i < T.length) (hj : j < T.length) (ne : i ≠ j) (h : 0 < at2 T i j) : ∃ m, (at2 T i j).toNat = m + 1 := ⟨(at2 T i j).toNat - 1, by omega⟩
theorem row_back {T : Mat} (ht : Tab T) : ∀ {l : List Int} {u z : List Int}, Wd T.length l → row T z = row T (u ++ l) → row T (z ++ l.reverse) = row T u
  | [], u, z, _, e => by
    rw [List.append_nil] at e
    rw [List.reverse_nil, List.append_nil]
    exact e
  | a :: l, u, z, hl, e => by
    have ha := hl a List.mem_cons_self
    obtain ⟨i, rfl⟩ : ∃ i : Nat, a = (i : Int) + 1 := ⟨(a - 1).toNat, by omega⟩
    have e2 : row T z = row T ((u ++ [(i : Int) + 1]) ++ l) := by rw [e, List.append_assoc]; rfl
    have ih := row_back ht (fun b hb => hl b (List.mem_cons_of_mem _ hb)) e2
    rw [List.reverse_cons, ← List.append_assoc]
    have := row_app (z := [(i : Int) + 1]) ih
    rw [row_undo ht (by omega)] at this
    exact this
theorem matsumoto {T : Mat} (ht : Tab T) : ∀ (k : Nat) {u v : List Int}, u.length = k → Wd T.length u → Wd T.length v → Sh T u → Sh T v → row T u = row T v → Tn T u v
  | 0, u, v, hk, wu, wv, su, sv, e => by
    obtain rfl : u = [] := List.eq_nil_of_length_eq_zero hk
    have := (su.cong wu wv e).uniq sv
    have hv : v.length = 0 := this.symm
    obtain rfl : v = [] := List.eq_nil_of_length_eq_zero hv
    exact .refl
  | k + 1, u, v, hk, wu, wv, su, sv, e => by
    have lv : v.length = k + 1 := by have := (su.cong wu wv e).uniq sv; omega
    -- words that end alike
    have same : ∀ {u v : List Int} {i : Nat}, i < T.length → Wd T.length u → Wd T.length v → u.length = k → Sh T (u ++ [(i : Int) + 1]) → Sh T (v ++ [(i : Int) + 1]) → row T (u ++ [(i : Int) + 1]) = row T (v ++ [(i : Int) + 1]) → Tn T (u ++ [(i : Int) + 1]) (v ++ [(i : Int) + 1]) := fun hi wu wv hk su sv e =>
      (matsumoto ht k hk wu wv (su.last ht hi wu).2 (sv.last ht hi wv).2 (row_cancel ht hi e)).app _
    rcases snoc_cases wu with rfl | ⟨u', i, hi, wu', rfl⟩
    · cases hk
    rcases snoc_cases wv with rfl | ⟨v', j, hj, wv', rfl⟩
    · cases lv
    have lu' : u'.length = k := by rw [List.length_append] at hk; simp at hk; exact hk
    have lv' : v'.length = k := by rw [List.length_append] at lv; simp at lv; exact lv
    by_cases c : i = j
    · subst c
      exact same hi wu' wv' lu' su sv e
    · have ni := (su.last ht hi wu').1
      have nj := (sv.last ht hj wv').1
      rw [← e] at nj
      obtain ⟨b, dn⟩ := dn_two ht wu su hi hj c ni nj
      obtain ⟨l, el, hl⟩ := dn.end_
      obtain ⟨m, em⟩ := alt_pos ht hi hj c b
      have wa : Wd T.length (alt ((i : Int) + 1) ((j : Int) + 1) (at2 T i j).toNat) := alt_wd ⟨by omega, by omega⟩ ⟨by omega, by omega⟩ _
      have wb : Wd T.length (alt ((j : Int) + 1) ((i : Int) + 1) (at2 T i j).toNat) := alt_wd ⟨by omega, by omega⟩ ⟨by omega, by omega⟩ _
      -- a shortest word of what is left
      obtain ⟨z0, lz0, ez0, rz0⟩ := hl.ex
      obtain ⟨z, wz, ez, rz⟩ : ∃ z, Wd T.length z ∧ z.length = l ∧ row T z = row T (u' ++ [(i : Int) + 1] ++ alt ((i : Int) + 1) ((j : Int) + 1) (at2 T i j).toNat) := by
        refine ⟨z0.map fun (a : Nat) => (a : Int) + 1, fun a ha => ?_, by rw [List.length_map]; exact ez0, ?_⟩
        · obtain ⟨q, hq, rfl⟩ := List.mem_map.mp ha
          have := lz0 q hq
          omega
        · have wz : Wd T.length (z0.map fun (a : Nat) => (a : Int) + 1) := fun a ha => by
            obtain ⟨q, hq, rfl⟩ := List.mem_map.mp ha
            have := lz0 q hq
            omega
          refine (row_eq_iff wz (wd_app wu wa)).mpr ?_
          rw [List.map_map, show (ix ∘ fun (a : Nat) => (a : Int) + 1) = id from funext ix_succ, List.map_id]
          exact rz0
      have rU : row T (z ++ (alt ((i : Int) + 1) ((j : Int) + 1) (at2 T i j).toNat).reverse) = row T (u' ++ [(i : Int) + 1]) := row_back ht wa rz
      have rV : row T (z ++ (alt ((j : Int) + 1) ((i : Int) + 1) (at2 T i j).toNat).reverse) = row T (u' ++ [(i : Int) + 1]) := row_back ht wb (by rw [rz]; exact row_alt ht wu hi hj c b)
      have wU := wd_app wz (wd_rev wa)
      have wV := wd_app wz (wd_rev wb)
      have lU : (z ++ (alt ((i : Int) + 1) ((j : Int) + 1) (at2 T i j).toNat).reverse).length = k + 1 := by rw [List.length_append, List.length_reverse, alt_len]; omega
      have lV : (z ++ (alt ((j : Int) + 1) ((i : Int) + 1) (at2 T i j).toNat).reverse).length = k + 1 := by rw [List.length_append, List.length_reverse, alt_len]; omega
      have sU : Sh T (z ++ (alt ((i : Int) + 1) ((j : Int) + 1) (at2 T i j).toNat).reverse) := by
        have := su.cong wu wU rU.symm
        rw [hk] at this
        show LN T _ _
        rw [lU]
        exact this
      have sV : Sh T (z ++ (alt ((j : Int) + 1) ((i : Int) + 1) (at2 T i j).toNat).reverse) := by
        have := su.cong wu wV rV.symm
        rw [hk] at this
        show LN T _ _
        rw [lV]
        exact this
      have turn := turn_rev ht hi hj c b z
      -- they end with i and with j
      have endU : (z ++ (alt ((i : Int) + 1) ((j : Int) + 1) (at2 T i j).toNat).reverse) = (z ++ (alt ((j : Int) + 1) ((i : Int) + 1) m).reverse) ++ [(i : Int) + 1] := by rw [em, alt_succ, List.reverse_cons, ← List.append_assoc]
      have endV : (z ++ (alt ((j : Int) + 1) ((i : Int) + 1) (at2 T i j).toNat).reverse) = (z ++ (alt ((i : Int) + 1) ((j : Int) + 1) m).reverse) ++ [(j : Int) + 1] := by rw [em, alt_succ, List.reverse_cons, ← List.append_assoc]
      have wU' : Wd T.length (z ++ (alt ((j : Int) + 1) ((i : Int) + 1) m).reverse) := wd_app wz (wd_rev (alt_wd ⟨by omega, by omega⟩ ⟨by omega, by omega⟩ _))
      have wV' : Wd T.length (z ++ (alt ((i : Int) + 1) ((j : Int) + 1) m).reverse) := wd_app wz (wd_rev (alt_wd ⟨by omega, by omega⟩ ⟨by omega, by omega⟩ _))
      have lU' : (z ++ (alt ((j : Int) + 1) ((i : Int) + 1) m).reverse).length = k := by rw [List.length_append, List.length_reverse, alt_len]; rw [em] at el; omega
      have lV' : (z ++ (alt ((i : Int) + 1) ((j : Int) + 1) m).reverse).length = k := by rw [List.length_append, List.length_reverse, alt_len]; rw [em] at el; omega
      rw [endU] at sU rU turn
      rw [endV] at sV rV turn
      have one : Tn T (u' ++ [(i : Int) + 1]) ((z ++ (alt ((j : Int) + 1) ((i : Int) + 1) m).reverse) ++ [(i : Int) + 1]) := same hi wu' wU' lu' su sU rU.symm
      have two : Tn T ((z ++ (alt ((i : Int) + 1) ((j : Int) + 1) m).reverse) ++ [(j : Int) + 1]) (v' ++ [(j : Int) + 1]) := same hj wV' wv' lV' sV sv (rV.trans e)
      exact one.trans (.step turn two)
end BW
namespace BW
open PySem L2 DL
def Ou1 (u v : List Int) : Prop := ∃ (p s : List Int) (a : Int), u = p ++ [a, a] ++ s ∧ v = p ++ s
inductive Led (T : Mat) : List Int → List Int → Prop
  | refl {u : List Int} : Led T u u
  | turn {u v w : List Int} : Tn1 T u v → Led T v w → Led T u w
  | out {u v w : List Int} : Ou1 u v → Led T v w → Led T u w
theorem Led.trans {T : Mat} {u v w : List Int} (h : Led T u v) (g : Led T v w) : Led T u w := by
  induction h with
  | refl => exact g
  | turn a _ ih => exact .turn a (ih g)
  | out a _ ih => exact .out a (ih g)
theorem Tn.led {T : Mat} {u v : List Int} (h : Tn T u v) : Led T u v := by
  induction h with
  | refl => exact .refl
  | step a _ ih => exact .turn a ih
theorem Led.app {T : Mat} {u v : List Int} (h : Led T u v) (z : List Int) : Led T (u ++ z) (v ++ z) := by
  induction h with
  | refl => exact .refl
  | turn a _ ih => exact .turn (a.app z) ih
  | out a _ ih =>
    obtain ⟨p, s, a, e1, e2⟩ := a
    exact .out ⟨p, s ++ z, a, by rw [e1, List.append_assoc], by rw [e2, List.append_assoc]⟩ ih
theorem short_of {T : Mat} {w : List Int} (hw : Wd T.length w) {k : Nat} (h : LN T w k) : ∃ z, Wd T.length z ∧ z.length = k ∧ row T z = row T w := by
  obtain ⟨z0, lz0, ez0, rz0⟩ := h.ex
  have wz : Wd T.length (z0.map fun (a : Nat) => (a : Int) + 1) := fun a ha => by
    obtain ⟨q, hq, rfl⟩ := List.mem_map.mp ha
    have := lz0 q hq
    omega
  refine ⟨_, wz, by rw [List.length_map]; exact ez0, (row_eq_iff wz hw).mpr ?_⟩
  rw [List.map_map, show (ix ∘ fun (a : Nat) => (a : Int) + 1) = id from funext ix_succ, List.map_id]
  exact rz0
theorem tits {T : Mat} (ht : Tab T) : ∀ (n : Nat) {w : List Int}, w.length = n → Wd T.length w → ∃ v, Led T w v ∧ Wd T.length v ∧ Sh T v ∧ row T v = row T w
  | 0, w, hn, hw => by
    obtain rfl : w = [] := List.eq_nil_of_length_eq_zero hn
    obtain ⟨k, hk, le⟩ := LN.has (T := T) hw
    exact ⟨[], .refl, hw, by have e : k = 0 := Nat.le_zero.mp le; rw [e] at hk; exact hk, rfl⟩
  | n + 1, w, hn, hw => by
    rcases snoc_cases hw with rfl | ⟨u, i, hi, wu, rfl⟩
    · cases hn
    have lu : u.length = n := by rw [List.length_append] at hn; simp at hn; exact hn
    obtain ⟨v, led, wv, sv, rv⟩ := tits ht n lu wu
    have wi : Wd T.length (v ++ [(i : Int) + 1]) := wd_app wv (wd_one hi)
    have m := LN.more ht wv sv hi
    by_cases c : ((i : Int) + 1) ∈ fall (row T v)
    · rw [if_pos c] at m
      obtain ⟨z, wz, lz, rz⟩ := short_of wi m.2
      -- z and the letter are a shortest word that is alike to v
      have wzi : Wd T.length (z ++ [(i : Int) + 1]) := wd_app wz (wd_one hi)
      have rzi : row T (z ++ [(i : Int) + 1]) = row T v := by
        have := row_app (z := [(i : Int) + 1]) rz
        rw [row_undo ht hi] at this
        exact this
      have lzi : (z ++ [(i : Int) + 1]).length = v.length := by rw [List.length_append, lz]; show v.length - 1 + 1 = _; omega
      have szi : Sh T (z ++ [(i : Int) + 1]) := by
        have := LN.cong wv wzi sv rzi.symm
        rw [← lzi] at this
        exact this
      have t := matsumoto ht v.length rfl wv wzi sv szi rzi.symm
      refine ⟨z, (led.app _).trans ((t.led.app _).trans (.out ⟨z, [], (i : Int) + 1, by rw [List.append_nil, List.append_assoc]; rfl, by rw [List.append_nil]⟩ .refl)), wz, ?_, ?_⟩
      · have := LN.cong wi wz m.2 rz.symm
        rw [← lz] at this
        exact this
      · rw [rz, row_app rv]
    · rw [if_neg c] at m
      refine ⟨v ++ [(i : Int) + 1], led.app _, wi, ?_, row_app rv⟩
      have e : (v ++ [(i : Int) + 1]).length = v.length + 1 := by rw [List.length_append]; rfl
      show LN T _ _
      rw [e]
      exact m
end BW
namespace BW
open PySem L2 DL
theorem small_log {a : Int} (h : -(2 ^ 300) < a ∧ a < 2 ^ 300) : a.natAbs.log2 < 1920 := by
  by_cases z : a.natAbs = 0
  · rw [z]; decide
  · have := (Nat.log2_lt (n := a.natAbs) (k := 300) z).mpr (by omega)
    omega
end BW
namespace BW
open PySem L2 DL
def lw (T : Mat) (w : List Int) : List Int := (wd T 60 (row T w.reverse)).1
def shown (T : Mat) (w : List Int) : List D := [tI (row T w), .int (wd T 60 (row T w)).1.length, tI (fall (row T w.reverse)), tI (fall (row T w)), tI (lw T w)]
theorem wd_path {T : Mat} (ht : Tab T) : ∀ (f : Nat) {w : List Int}, Wd T.length w → Wd T.length (wd T f (row T w)).1 ∧ (wd T f (row T w)).2 = row T (w ++ (wd T f (row T w)).1)
  | 0, w, hw => ⟨fun a ha => (nomatch ha), by rw [show (wd T 0 (row T w)).1 = [] from rfl, List.append_nil]; rfl⟩
  | f + 1, w, hw => by
    cases e : fall (row T w) with
    | nil =>
      rw [wd_nil e]
      exact ⟨fun a ha => (nomatch ha), by rw [List.append_nil]⟩
    | cons a q =>
      obtain ⟨i, ea, hi, _⟩ := fall_mem (by rw [e]; exact List.mem_cons_self : a ∈ fall (row T w))
      rw [row_length] at hi
      subst ea
      have h1 : Wd T.length (w ++ [(i : Int) + 1]) := wd_app hw (wd_one hi)
      have h3 : press T (row T w) (ix ((i : Int) + 1)) = row T (w ++ [(i : Int) + 1]) := row_snoc.symm
      rw [wd_cons e, h3]
      obtain ⟨i1, i2⟩ := wd_path ht f h1
      refine ⟨fun z hz => ?_, ?_⟩
      · rcases List.mem_cons.mp hz with rfl | hz
        · exact ⟨by omega, by omega⟩
        · exact i1 z hz
      · show (wd T f (row T (w ++ [(i : Int) + 1]))).2 = _
        rw [i2, List.append_assoc]
        rfl
theorem row_rev {T : Mat} (ht : Tab T) {u v : List Int} (hu : Wd T.length u) (hv : Wd T.length v) (e : row T u = row T v) : row T u.reverse = row T v.reverse := by
  refine (row_eq_iff (wd_rev hu) (wd_rev hv)).mpr ?_
  rw [List.map_reverse, List.map_reverse]
  exact TT.Rw.rev (car_of ht) (lets_of hu) (lets_of hv) ((row_eq_iff hu hv).mp e)
theorem wd_back {T : Mat} (ht : Tab T) {w : List Int} (hw : Wd T.length w) (hl : w.length ≤ 60) : (wd T 60 (row T w)).2 = one T ∧ row T (wd T 60 (row T w)).1 = row T w.reverse := by
  obtain ⟨n, hn, hn2⟩ := LN.has hw
  obtain ⟨m1, m2⟩ := wd_path ht 60 hw
  have e1 := (wd_len ht n hw hn (by omega : n ≤ 60)).2
  refine ⟨e1, ?_⟩
  rw [e1] at m2
  have b := row_back ht (u := []) (z := w ++ (wd T 60 (row T w)).1) (l := []) (fun a ha => nomatch ha) (by rw [List.append_nil]; exact m2.symm)
  have c : row T ([] : List Int) = row T (w ++ (wd T 60 (row T w)).1) := m2
  -- w = the letters gone back
  have d := row_back ht (u := w) (z := []) m1 c
  rw [List.nil_append] at d
  have e := row_rev ht (wd_rev m1) hw d
  rw [List.reverse_reverse] at e
  exact e
theorem LN.par {T : Mat} (ht : Tab T) : ∀ (n : Nat) {w : List Int} {k : Nat}, w.length = n → Wd T.length w → LN T w k → k % 2 = n % 2
  | 0, w, k, hl, hw, h => by
    obtain ⟨j, hj, hj2⟩ := LN.has hw
    have := LN.uniq h hj
    omega
  | n + 1, w, k, hl, hw, h => by
    rcases snoc_cases hw with rfl | ⟨v, i, hi, wv, rfl⟩
    · cases hl
    · rw [List.length_append, List.length_singleton] at hl
      obtain ⟨j, hj, hj2⟩ := LN.has wv
      have ih := LN.par ht n (by omega : v.length = n) wv hj
      have m := LN.more ht wv hj hi
      by_cases c : ((i : Int) + 1) ∈ fall (row T v)
      · rw [if_pos c] at m
        have := LN.uniq h m.2
        omega
      · rw [if_neg c] at m
        have := LN.uniq h m
        omega
theorem mv_row {T : Mat} (ht : Tab T) {w v : List Int} {e : Deed} (hw : Wd T.length w) (he : e.fits T.length w.length) (h : mv T w e = some v) : row T v = row T w := by
  cases e with
  | inn k a =>
    have h : (w.take k ++ [a, a]) ++ w.drop k = v := Option.some.inj h
    subst h
    obtain ⟨i, rfl⟩ : ∃ i : Nat, a = (i : Int) + 1 := ⟨(a - 1).toNat, by have := he.2; omega⟩
    have hi : i < T.length := by have := he.2; omega
    have e1 := row_app (z := w.drop k) (row_undo ht (w := w.take k) hi)
    rw [List.take_append_drop] at e1
    rw [← e1, List.append_assoc (w.take k) [(i : Int) + 1] [(i : Int) + 1]]
    rfl
  | out k =>
    rw [mv_out] at h
    split at h
    · rename_i c
      cases h
      obtain ⟨c1, c2⟩ := c
      have hk : k < w.length := by omega
      have ma := hw (w.getD k 0) (List.mem_of_getElem? (getD_get (d := 0) hk))
      obtain ⟨i, ei⟩ : ∃ i : Nat, w.getD k 0 = (i : Int) + 1 := ⟨(w.getD k 0 - 1).toNat, by omega⟩
      have hi : i < T.length := by omega
      have e1 := row_app (z := w.drop (k + 2)) (row_undo ht (w := w.take k) hi)
      rw [← e1]
      congr 1
      have d1 : w.drop k = w.getD k 0 :: w.drop (k + 1) := by
        rw [List.drop_eq_getElem_cons hk]
        congr 1
        rw [List.getD_eq_getElem?_getD, List.getElem?_eq_getElem hk]; rfl
      have d2 : w.drop (k + 1) = w.getD (k + 1) 0 :: w.drop (k + 2) := by
        rw [List.drop_eq_getElem_cons c1]
        congr 1
        rw [List.getD_eq_getElem?_getD, List.getElem?_eq_getElem c1]; rfl
      rw [List.append_assoc, List.append_assoc]
      conv => rhs; rw [← List.take_append_drop k w, d1, d2, ← c2, ei]
      rfl
    · cases h
  | turn k =>
    rw [mv_turn] at h
    split at h
    · rename_i c
      split at h
      · rename_i c2
        cases h
        obtain ⟨c1, cn⟩ := c
        obtain ⟨c3, c4⟩ := c2
        have hk : k < w.length := by omega
        have ma := hw (w.getD k 0) (List.mem_of_getElem? (getD_get (d := 0) hk))
        have mb := hw (w.getD (k + 1) 0) (List.mem_of_getElem? (getD_get (d := 0) c1))
        obtain ⟨i, ei⟩ : ∃ i : Nat, w.getD k 0 = (i : Int) + 1 := ⟨(w.getD k 0 - 1).toNat, by omega⟩
        obtain ⟨j, ej⟩ : ∃ j : Nat, w.getD (k + 1) 0 = (j : Int) + 1 := ⟨(w.getD (k + 1) 0 - 1).toNat, by omega⟩
        have hi : i < T.length := by omega
        have hj : j < T.length := by omega
        rw [ei, ej, ix_succ, ix_succ] at c3 c4 ⊢
        have ne : i ≠ j := fun z => cn (by rw [ei, ej, z])
        have hp : 0 < at2 T i j := by omega
        have e1 := row_app (z := w.drop (k + (at2 T i j).toNat)) (row_alt ht (w := w.take k) (fun z hz => hw z (List.mem_of_mem_take hz)) hi hj ne hp)
        rw [← e1]
        congr 1
        rw [← c4, List.append_assoc]
        conv => rhs; rw [← List.take_append_drop k w]
        congr 1
        rw [← List.drop_drop, List.take_append_drop]
      · cases h
    · cases h
end BW
set_option maxHeartbeats 1000000
namespace BW
open PySem L2 DL
def Ws (T : Mat) : List Int → List Deed → List Int → Prop
  | w, [], v => v = w
  | w, e :: r, v => ∃ k u, e = .turn k ∧ mv T w (.turn k) = some u ∧ Ws T u r v
theorem Ws.app {T : Mat} : ∀ {es fs : List Deed} {w u v : List Int}, Ws T w es u → Ws T u fs v → Ws T w (es ++ fs) v
  | [], fs, w, u, v, h, g => by
    have h : u = w := h
    subst h
    exact g
  | e :: r, fs, w, u, v, ⟨k, x, a, b, c⟩, g => ⟨k, x, a, b, Ws.app c g⟩
theorem mv_suf {T : Mat} {w u z : List Int} {k : Nat} (h : mv T w (.turn k) = some u) : mv T (w ++ z) (.turn k) = some (u ++ z) := by
  rw [mv_turn] at h ⊢
  split at h
  case isFalse => cases h
  rename_i c
  have g0 : (w ++ z).getD k 0 = w.getD k 0 := by rw [List.getD_eq_getElem?_getD, List.getD_eq_getElem?_getD, List.getElem?_append_left (by omega)]
  have g1 : (w ++ z).getD (k + 1) 0 = w.getD (k + 1) 0 := by rw [List.getD_eq_getElem?_getD, List.getD_eq_getElem?_getD, List.getElem?_append_left (by omega)]
  rw [g0, g1, if_pos ⟨by rw [List.length_append]; omega, c.2⟩]
  split at h
  case isFalse => cases h
  rename_i c2
  cases h
  have l := congrArg List.length c2.2
  rw [alt_length, List.length_take, List.length_drop] at l
  have d1 : (w ++ z).drop k = w.drop k ++ z := List.drop_append_of_le_length (by omega)
  have t1 : ((w ++ z).drop k).take (at2 T (ix (w.getD k 0)) (ix (w.getD (k + 1) 0))).toNat = (w.drop k).take (at2 T (ix (w.getD k 0)) (ix (w.getD (k + 1) 0))).toNat := by
    rw [d1, List.take_append_of_le_length (by rw [List.length_drop]; omega)]
  rw [t1, if_pos c2, List.take_append_of_le_length (by omega), List.drop_append_of_le_length (by omega), List.append_assoc (_ ++ _) _ z]
theorem Ws.suf {T : Mat} {z : List Int} : ∀ {es : List Deed} {w v : List Int}, Ws T w es v → Ws T (w ++ z) es (v ++ z)
  | [], w, v, h => by
    have h : v = w := h
    subst h
    rfl
  | e :: r, w, v, ⟨k, u, a, b, c⟩ => ⟨k, u ++ z, a, mv_suf b, Ws.suf c⟩
theorem Ws.all {T : Mat} (ht : Tab T) : ∀ {es : List Deed} {w v : List Int}, Ws T w es v → Wd T.length w → Wd T.length v ∧ v.length = w.length ∧ row T v = row T w
  | [], w, v, h, hw => by
    have h : v = w := h
    subst h
    exact ⟨hw, rfl, rfl⟩
  | e :: r, w, v, ⟨k, u, a, b, c⟩, hw => by
    have hu : Wd T.length u := mv_wd (e := .turn k) hw trivial b
    obtain ⟨h1, h2, h3⟩ := Ws.all ht c hu
    exact ⟨h1, h2.trans (mv_turn_len0 b), h3.trans (mv_row ht (e := .turn k) hw trivial b)⟩
where
  mv_turn_len0 {T : Mat} {w v : List Int} {k : Nat} (h : mv T w (.turn k) = some v) : v.length = w.length := by
    rw [mv_turn] at h
    split at h
    · rename_i c
      split at h
      · rename_i c2
        cases h
        have l := congrArg List.length c2.2
        rw [alt_length, List.length_take, List.length_drop] at l
        rw [List.length_append, List.length_append, alt_length, List.length_take, List.length_drop]
        omega
      · cases h
    · cases h
abbrev blS (f : List Int → Int → List Int × List Deed) (L : Nat) (a b : Int) (s0 : List Int × List Deed) : Nat → List Int × List Deed
  | 0 => s0
  | p + 1 => ((f ((blS f L a b s0 p).1.take (L - p)) (if p % 2 = 0 then a else b)).1 ++ (blS f L a b s0 p).1.drop (L - p), (blS f L a b s0 p).2 ++ (f ((blS f L a b s0 p).1.take (L - p)) (if p % 2 = 0 then a else b)).2)
def bl (T : Mat) : Nat → List Int → Int → List Int × List Deed
  | 0, w, _ => (w, [])
  | n + 1, w, a => if w.getLastD 0 = a then (w, []) else
    ((mv T (blS (bl T n) w.length (w.getLastD 0) a (w, []) (at2 T (ix (w.getLastD 0)) (ix a)).toNat).1 (.turn (w.length - (at2 T (ix (w.getLastD 0)) (ix a)).toNat))).getD (blS (bl T n) w.length (w.getLastD 0) a (w, []) (at2 T (ix (w.getLastD 0)) (ix a)).toNat).1,
      (blS (bl T n) w.length (w.getLastD 0) a (w, []) (at2 T (ix (w.getLastD 0)) (ix a)).toNat).2 ++ [.turn (w.length - (at2 T (ix (w.getLastD 0)) (ix a)).toNat)])
def sz (w : List Int) (a : Int) : Nat := 2 * w.length + if w.getLastD 0 = a then 0 else 1
theorem bl_same {T : Mat} {n : Nat} {w : List Int} {a : Int} (h : w.getLastD 0 = a) : bl T n w a = (w, []) := by
  cases n with
  | zero => rfl
  | succ n =>
    unfold bl
    rw [if_pos h]
theorem lastD_snoc (v : List Int) (a : Int) : (v ++ [a]).getLastD 0 = a := by
  rw [List.getLastD_eq_getLast?, List.getLast?_append]; rfl
structure Bq (T : Mat) (w : List Int) (j : Nat) : Prop where
  hj : j < T.length
  hw : Wd T.length w
  sh : Sh T w
  lo : (row T w).getD j 0 < 0
structure Br (T : Mat) (w : List Int) (j : Nat) (r : List Int × List Deed) : Prop where
  ws : Ws T w r.2 r.1
  last : ∃ v, r.1 = v ++ [(j : Int) + 1]
  few2 : 2 * r.2.length ≤ 2 ^ w.length
theorem Br.few {T : Mat} {w : List Int} {j : Nat} {r : List Int × List Deed} (h : Br T w j r) : r.2.length < 2 ^ w.length := by
  have := h.few2
  have := Nat.two_pow_pos w.length
  omega
theorem alt_snoc (a b : Int) (p : Nat) : alt a b (p + 1) = alt a b p ++ [if p % 2 = 0 then a else b] := by
  unfold alt
  rw [List.range_succ, List.map_append]
  rfl
theorem Bq.ne {T : Mat} {w : List Int} {j : Nat} (h : Bq T w j) : w ≠ [] := fun z => by
  subst z
  have := h.lo
  have e : row T [] = one T := rfl
  rw [e] at this
  unfold one at this
  rw [List.getD_eq_getElem?_getD, List.getElem?_replicate, if_pos h.hj] at this
  exact absurd this (by decide)
theorem Bq.own {T : Mat} (ht : Tab T) {w : List Int} {j : Nat} (h : Bq T w j) : ∃ (v : List Int) (i : Nat), i < T.length ∧ w = v ++ [(i : Int) + 1] ∧ w.getLastD 0 = (i : Int) + 1 ∧ (row T w).getD i 0 < 0 := by
  rcases snoc_cases h.hw with e | ⟨v, i, hi, hv, e⟩
  · exact absurd e h.ne
  · subst e
    exact ⟨v, i, hi, rfl, lastD_snoc v _, (Sh.last ht hi hv h.sh).1⟩
theorem LN.far {T : Mat} (ht : Tab T) : ∀ {z u : List Int} {k l : Nat}, Wd T.length u → Wd T.length z → LN T u k → LN T (u ++ z) l → k ≤ l + z.length
  | [], u, k, l, hu, hz, h, g => by
    rw [List.append_nil] at g
    have := h.uniq g
    show k ≤ l + 0
    omega
  | a :: z, u, k, l, hu, hz, h, g => by
    have ha := hz a List.mem_cons_self
    obtain ⟨i, rfl⟩ : ∃ i : Nat, a = (i : Int) + 1 := ⟨(a - 1).toNat, by omega⟩
    have hi : i < T.length := by omega
    have hu2 : Wd T.length (u ++ [(i : Int) + 1]) := wd_app hu (wd_one hi)
    have hz2 : Wd T.length z := fun b hb => hz b (List.mem_cons_of_mem _ hb)
    have e : u ++ (((i : Int) + 1) :: z) = (u ++ [(i : Int) + 1]) ++ z := by rw [List.append_assoc]; rfl
    rw [e] at g
    have m := LN.more ht hu h hi
    rw [List.length_cons]
    by_cases c : ((i : Int) + 1) ∈ fall (row T u)
    · rw [if_pos c] at m
      have := LN.far ht hu2 hz2 m.2 g
      have := m.1
      omega
    · rw [if_neg c] at m
      have := LN.far ht hu2 hz2 m g
      omega
theorem alt_cut (a b : Int) {p m : Nat} (h : p ≤ m) : alt a b m = alt a b p ++ (alt a b m).drop p := by
  have : (alt a b m).take p = alt a b p := by
    unfold alt
    rw [← List.map_take, List.take_range, Nat.min_eq_left h]
  rw [← this, List.take_append_drop]
theorem two_at {T : Mat} (ht : Tab T) {w : List Int} {i j : Nat} (hw : Wd T.length w) (hs : Sh T w) (hi : i < T.length) (hj : j < T.length) (ne : i ≠ j) (ni : (row T w).getD i 0 < 0) (nj : (row T w).getD j 0 < 0) :
    0 < at2 T i j ∧ (at2 T i j).toNat ≤ w.length ∧ ∀ p, p ≤ (at2 T i j).toNat → LN T (w ++ alt ((i : Int) + 1) ((j : Int) + 1) p) (w.length - p) := by
  obtain ⟨h0, hd⟩ := dn_two ht hw hs hi hj ne ni nj
  obtain ⟨l, e, hl⟩ := hd.end_
  refine ⟨h0, by omega, fun p hp => ?_⟩
  have wa : ∀ q, Wd T.length (alt ((i : Int) + 1) ((j : Int) + 1) q) := fun q => alt_wd ⟨by omega, by omega⟩ ⟨by omega, by omega⟩ q
  obtain ⟨kp, hkp, _⟩ := LN.has (wd_app hw (wa p))
  have f1 := LN.far ht hw (wa p) hs hkp
  rw [alt_length] at f1
  rw [alt_cut _ _ hp, ← List.append_assoc] at hl
  have f2 := LN.far ht (wd_app hw (wa p)) (fun b hb => wa _ b (List.mem_of_mem_drop hb)) hkp hl
  rw [List.length_drop, alt_length] at f2
  have : kp = w.length - p := by omega
  rw [this] at hkp
  exact hkp
theorem fall_of_less {T : Mat} (ht : Tab T) {u : List Int} {k i : Nat} (hu : Wd T.length u) (hi : i < T.length) (h : LN T u (k + 1)) (g : LN T (u ++ [(i : Int) + 1]) k) : (row T u).getD i 0 < 0 := by
  have m := LN.more ht hu h hi
  by_cases c : ((i : Int) + 1) ∈ fall (row T u)
  · exact (mem_fall (by rw [row_length]; exact hi)).mp c
  · rw [if_neg c] at m
    have := m.uniq g
    omega
structure Ip (T : Mat) (w : List Int) (i j p : Nat) (s : List Int × List Deed) : Prop where
  ws : Ws T w s.2 s.1
  ex : ∃ h, s.1 = h ++ (alt ((i : Int) + 1) ((j : Int) + 1) p).reverse ∧ h.length = w.length - p ∧ Wd T.length h ∧ row T h = row T (w ++ alt ((i : Int) + 1) ((j : Int) + 1) p)
  few : (p = 0 ∧ s.2.length = 0) ∨ (1 ≤ p ∧ 2 * s.2.length + 2 ^ (w.length - p + 1) ≤ 2 ^ w.length)
def xp (i j p : Nat) : Nat := if p % 2 = 0 then i else j
theorem xp_eq (i j p : Nat) : (if p % 2 = 0 then ((i : Int) + 1) else ((j : Int) + 1)) = ((xp i j p : Nat) : Int) + 1 := by
  unfold xp
  by_cases c : p % 2 = 0
  · rw [if_pos c, if_pos c]
  · rw [if_neg c, if_neg c]
section
variable {T : Mat} {w : List Int} {i j p : Nat} {s : List Int × List Deed}
theorem Ip.head (ht : Tab T) (hw : Wd T.length w) (hi : i < T.length) (hj : j < T.length) (I : Ip T w i j p s) (hp : p + 1 ≤ w.length) (l0 : LN T (w ++ alt ((i : Int) + 1) ((j : Int) + 1) p) (w.length - p)) (l1 : LN T (w ++ alt ((i : Int) + 1) ((j : Int) + 1) (p + 1)) (w.length - (p + 1))) :
    Bq T (s.1.take (w.length - p)) (xp i j p) ∧ (s.1.take (w.length - p)).length = w.length - p := by
  obtain ⟨h, e, lh, wh, rh⟩ := I.ex
  have et : s.1.take (w.length - p) = h := by rw [e, ← lh, List.take_left']; rfl
  rw [et]
  have wa : Wd T.length (alt ((i : Int) + 1) ((j : Int) + 1) p) := alt_wd ⟨by omega, by omega⟩ ⟨by omega, by omega⟩ p
  have hx : xp i j p < T.length := by unfold xp; split <;> assumption
  have sh : Sh T h := by
    have := l0.cong (wd_app hw wa) wh rh.symm
    rw [← lh] at this
    exact this
  refine ⟨⟨hx, wh, sh, ?_⟩, lh⟩
  rw [rh]
  have e1 : w ++ alt ((i : Int) + 1) ((j : Int) + 1) (p + 1) = (w ++ alt ((i : Int) + 1) ((j : Int) + 1) p) ++ [((xp i j p : Nat) : Int) + 1] := by rw [alt_snoc, xp_eq, List.append_assoc]
  rw [e1] at l1
  have e2 : w.length - p = (w.length - (p + 1)) + 1 := by omega
  rw [e2] at l0
  exact fall_of_less ht (wd_app hw wa) hx l0 l1
theorem Ip.next (ht : Tab T) (hw : Wd T.length w) (hi : i < T.length) (hj : j < T.length) (I : Ip T w i j p s) (hp : p + 1 ≤ w.length) {r : List Int × List Deed} (hr : Br T (s.1.take (w.length - p)) (xp i j p) r) (h0 : p = 0 → r.2 = []) :
    Ip T w i j (p + 1) (r.1 ++ s.1.drop (w.length - p), s.2 ++ r.2) := by
  obtain ⟨h, e, lh, wh, rh⟩ := I.ex
  have et : s.1.take (w.length - p) = h := by rw [e, ← lh, List.take_left']; rfl
  have ed : s.1.drop (w.length - p) = (alt ((i : Int) + 1) ((j : Int) + 1) p).reverse := by rw [e, ← lh, List.drop_left']; rfl
  rw [et] at hr
  rw [ed]
  have hx : xp i j p < T.length := by unfold xp; split <;> assumption
  obtain ⟨v, ev⟩ := hr.last
  obtain ⟨a1, a2, a3⟩ := hr.ws.all ht wh
  have wv : Wd T.length v := fun b hb => a1 b (by rw [ev]; exact List.mem_append_left _ hb)
  have lv : v.length + 1 = h.length := by rw [← a2, ev, List.length_append]; rfl
  have e1 : alt ((i : Int) + 1) ((j : Int) + 1) (p + 1) = alt ((i : Int) + 1) ((j : Int) + 1) p ++ [((xp i j p : Nat) : Int) + 1] := by rw [alt_snoc, xp_eq]
  refine ⟨?_, ⟨v, ?_, by omega, wv, ?_⟩, ?_⟩
  · refine I.ws.app ?_
    rw [e]
    exact hr.ws.suf
  · show r.1 ++ (alt ((i : Int) + 1) ((j : Int) + 1) p).reverse = _
    rw [e1, List.reverse_append, ev, List.append_assoc]
    rfl
  · rw [e1, ← List.append_assoc]
    refine row_cancel ht hx ?_
    rw [row_undo ht hx, ← ev, a3, rh]
  · have lf := hr.few2
    rw [lh] at lf
    refine .inr ⟨by omega, ?_⟩
    show 2 * (s.2 ++ r.2).length + 2 ^ (w.length - (p + 1) + 1) ≤ 2 ^ w.length
    rw [List.length_append, show w.length - (p + 1) + 1 = w.length - p by omega]
    rcases I.few with ⟨rfl, z⟩ | ⟨h1, z⟩
    · rw [h0 rfl, z, Nat.sub_zero]
      show 2 * (0 + 0) + _ ≤ _
      omega
    · have : 2 ^ (w.length - p + 1) = 2 ^ (w.length - p) * 2 := Nat.pow_succ ..
      omega
end
end BW
set_option maxHeartbeats 1000000
namespace BW
open PySem L2 DL
theorem turn_at {T : Mat} (ht : Tab T) {h : List Int} {a b : Nat} (ha : a < T.length) (hb : b < T.length) (ne : a ≠ b) (h0 : 0 < at2 T a b) :
    mv T (h ++ alt ((a : Int) + 1) ((b : Int) + 1) (at2 T a b).toNat) (.turn h.length) = some (h ++ alt ((b : Int) + 1) ((a : Int) + 1) (at2 T a b).toNat) := by
  obtain ⟨m, em⟩ : ∃ m, (at2 T a b).toNat = m + 2 := by
    rcases ht.of a b ha hb ne with e | e | e | e | e
    · exact ⟨0, by rw [e]; rfl⟩
    · exact ⟨1, by rw [e]; rfl⟩
    · exact ⟨2, by rw [e]; rfl⟩
    · exact ⟨4, by rw [e]; rfl⟩
    · rw [e] at h0; exact absurd h0 (by decide)
  have la : (alt ((a : Int) + 1) ((b : Int) + 1) (at2 T a b).toNat).length = (at2 T a b).toNat := alt_length _ _ _
  have g0 : (h ++ alt ((a : Int) + 1) ((b : Int) + 1) (at2 T a b).toNat).getD h.length 0 = (a : Int) + 1 := by
    rw [List.getD_eq_getElem?_getD, List.getElem?_append_right (Nat.le_refl _), Nat.sub_self, em, alt_succ]; rfl
  have g1 : (h ++ alt ((a : Int) + 1) ((b : Int) + 1) (at2 T a b).toNat).getD (h.length + 1) 0 = (b : Int) + 1 := by
    rw [List.getD_eq_getElem?_getD, List.getElem?_append_right (by omega), show h.length + 1 - h.length = 1 by omega, em, alt_succ, alt_succ]; rfl
  have d1 : (h ++ alt ((a : Int) + 1) ((b : Int) + 1) (at2 T a b).toNat).drop h.length = alt ((a : Int) + 1) ((b : Int) + 1) (at2 T a b).toNat := List.drop_left
  have t1 : (alt ((a : Int) + 1) ((b : Int) + 1) (at2 T a b).toNat).take (at2 T a b).toNat = alt ((a : Int) + 1) ((b : Int) + 1) (at2 T a b).toNat := List.take_of_length_le (by rw [la]; exact Nat.le_refl _)
  have d2 : (h ++ alt ((a : Int) + 1) ((b : Int) + 1) (at2 T a b).toNat).drop (h.length + (at2 T a b).toNat) = [] := List.drop_eq_nil_of_le (by rw [List.length_append, la]; exact Nat.le_refl _)
  rw [mv_turn, g0, g1, ix_succ, ix_succ, if_pos ⟨by rw [List.length_append, la, em]; omega, fun z => ne (by omega)⟩, d1, t1, if_pos ⟨by omega, rfl⟩, d2, List.append_nil, List.take_left]
theorem fin_mv {T : Mat} (ht : Tab T) {h : List Int} {i j : Nat} (hi : i < T.length) (hj : j < T.length) (ne : i ≠ j) (h0 : 0 < at2 T i j) :
    mv T (h ++ (alt ((i : Int) + 1) ((j : Int) + 1) (at2 T i j).toNat).reverse) (.turn h.length) = some (h ++ (alt ((j : Int) + 1) ((i : Int) + 1) (at2 T i j).toNat).reverse) := by
  have sy := ht.sy i j hi hj
  rcases alt_rev ht hi hj ne h0 with ⟨a, b⟩ | ⟨a, b⟩
  · rw [a, b]; exact turn_at ht hi hj ne h0
  · rw [a, b]
    have := turn_at ht (h := h) hj hi (fun z => ne z.symm) (by rw [← sy]; exact h0)
    rw [← sy] at this
    exact this
theorem bl_succ {T : Mat} {n : Nat} {w : List Int} {i j : Nat} (hl : w.getLastD 0 = (i : Int) + 1) (ne : i ≠ j) : bl T (n + 1) w ((j : Int) + 1) =
    ((mv T (blS (bl T n) w.length ((i : Int) + 1) ((j : Int) + 1) (w, []) (at2 T i j).toNat).1 (.turn (w.length - (at2 T i j).toNat))).getD (blS (bl T n) w.length ((i : Int) + 1) ((j : Int) + 1) (w, []) (at2 T i j).toNat).1,
      (blS (bl T n) w.length ((i : Int) + 1) ((j : Int) + 1) (w, []) (at2 T i j).toNat).2 ++ [.turn (w.length - (at2 T i j).toNat)]) := by
  show (if w.getLastD 0 = (j : Int) + 1 then (w, []) else _) = _
  rw [hl, if_neg (fun z => ne (by omega)), ix_succ, ix_succ]
theorem ip_all {T : Mat} (ht : Tab T) {n : Nat} (ih : ∀ {w : List Int} {j : Nat}, Bq T w j → sz w ((j : Int) + 1) < n → Br T w j (bl T n w ((j : Int) + 1))) {w : List Int} {i j : Nat} (hw : Wd T.length w) (hs : Sh T w) (hl : w.getLastD 0 = (i : Int) + 1) (hi : i < T.length) (hj : j < T.length) (ne : i ≠ j) (hn : 2 * w.length < n)
    (bm : (at2 T i j).toNat ≤ w.length) (lns : ∀ p, p ≤ (at2 T i j).toNat → LN T (w ++ alt ((i : Int) + 1) ((j : Int) + 1) p) (w.length - p)) :
    ∀ p, p ≤ (at2 T i j).toNat → Ip T w i j p (blS (bl T n) w.length ((i : Int) + 1) ((j : Int) + 1) (w, []) p)
  | 0, _ => ⟨rfl, ⟨w, by show w = w ++ [].reverse; rw [List.reverse_nil, List.append_nil], rfl, hw, by show _ = row T (w ++ []); rw [List.append_nil]⟩, .inl ⟨rfl, rfl⟩⟩
  | p + 1, hp => by
    have I := ip_all ht ih hw hs hl hi hj ne hn bm lns p (by omega)
    generalize hsd : blS (bl T n) w.length ((i : Int) + 1) ((j : Int) + 1) (w, []) p = s at I
    obtain ⟨q, lq⟩ := I.head ht hw hi hj (by omega) (lns p (by omega)) (lns (p + 1) hp)
    show Ip T w i j (p + 1) (((bl T n) ((blS (bl T n) w.length ((i : Int) + 1) ((j : Int) + 1) (w, []) p).1.take (w.length - p)) (if p % 2 = 0 then ((i : Int) + 1) else ((j : Int) + 1))).1 ++ (blS (bl T n) w.length ((i : Int) + 1) ((j : Int) + 1) (w, []) p).1.drop (w.length - p), (blS (bl T n) w.length ((i : Int) + 1) ((j : Int) + 1) (w, []) p).2 ++ ((bl T n) ((blS (bl T n) w.length ((i : Int) + 1) ((j : Int) + 1) (w, []) p).1.take (w.length - p)) (if p % 2 = 0 then ((i : Int) + 1) else ((j : Int) + 1))).2)
    rw [xp_eq, hsd]
    have p0 : p = 0 → s.1.take (w.length - p) = w ∧ xp i j p = i := fun z => by
      subst z
      have : (w, []) = s := hsd
      subst this
      exact ⟨by rw [Nat.sub_zero, List.take_length], rfl⟩
    have szq : sz (s.1.take (w.length - p)) ((xp i j p : Nat) + 1) < n := by
      unfold sz
      rw [lq]
      by_cases c : p = 0
      · obtain ⟨e1, e2⟩ := p0 c
        rw [e1, e2, hl, if_pos rfl]
        omega
      · split <;> omega
    refine I.next ht hw hi hj (by omega) (ih q szq) fun z => ?_
    obtain ⟨e1, e2⟩ := p0 z
    rw [e1, e2, bl_same hl]
theorem bl_ok {T : Mat} (ht : Tab T) : ∀ (n : Nat) {w : List Int} {j : Nat}, Bq T w j → sz w ((j : Int) + 1) < n → Br T w j (bl T n w ((j : Int) + 1))
  | 0, w, j, _, h => absurd h (Nat.not_lt_zero _)
  | n + 1, w, j, q, h => by
    obtain ⟨v, i, hi, ew, hl, ni⟩ := q.own ht
    by_cases c : i = j
    · subst c
      rw [bl_same hl]
      exact ⟨rfl, ⟨v, ew⟩, Nat.zero_le _⟩
    · obtain ⟨b0, bm, lns⟩ := two_at ht q.hw q.sh hi q.hj c ni q.lo
      have hn : 2 * w.length < n := by
        unfold sz at h
        rw [hl, if_neg (fun z => c (by omega))] at h
        omega
      have I := ip_all ht (fun {w j} => bl_ok ht n (w := w) (j := j)) q.hw q.sh hl hi q.hj c hn bm lns (at2 T i j).toNat (Nat.le_refl _)
      rw [bl_succ hl c]
      generalize blS (bl T n) w.length ((i : Int) + 1) ((j : Int) + 1) (w, []) (at2 T i j).toNat = s at I
      obtain ⟨h1, e1, l1, w1, r1⟩ := I.ex
      have hmv : mv T s.1 (.turn (w.length - (at2 T i j).toNat)) = some (h1 ++ (alt ((j : Int) + 1) ((i : Int) + 1) (at2 T i j).toNat).reverse) := by
        rw [e1, ← l1]; exact fin_mv ht hi q.hj c b0
      obtain ⟨m, em⟩ := alt_pos ht hi q.hj c b0
      refine ⟨?_, ⟨h1 ++ (alt ((i : Int) + 1) ((j : Int) + 1) m).reverse, ?_⟩, ?_⟩
      · show Ws T w (s.2 ++ [.turn (w.length - (at2 T i j).toNat)]) ((mv T s.1 (.turn (w.length - (at2 T i j).toNat))).getD s.1)
        rw [hmv]
        exact I.ws.app ⟨_, _, rfl, hmv, rfl⟩
      · show (mv T s.1 (.turn (w.length - (at2 T i j).toNat))).getD s.1 = _
        rw [hmv]
        show h1 ++ (alt ((j : Int) + 1) ((i : Int) + 1) (at2 T i j).toNat).reverse = _
        rw [em, alt_succ, List.reverse_cons, List.append_assoc]
      · show 2 * (s.2 ++ [Deed.turn (w.length - (at2 T i j).toNat)]).length ≤ _
        rw [List.length_append]
        show 2 * (s.2.length + 1) ≤ _
        rcases I.few with ⟨z, _⟩ | ⟨_, z⟩
        · omega
        · have : 2 ^ (w.length - (at2 T i j).toNat + 1) = 2 ^ (w.length - (at2 T i j).toNat) * 2 := Nat.pow_succ ..
          have := Nat.two_pow_pos (w.length - (at2 T i j).toNat)
          omega
end BW
set_option maxHeartbeats 1000000
namespace BW
open PySem L2 DL
def Wo (T : Mat) : List Int → List Deed → List Int → Prop
  | w, [], v => v = w
  | w, e :: r, v => ∃ k u, (e = .turn k ∨ e = .out k) ∧ mv T w e = some u ∧ Wo T u r v
theorem Wo.app {T : Mat} : ∀ {es fs : List Deed} {w u v : List Int}, Wo T w es u → Wo T u fs v → Wo T w (es ++ fs) v
  | [], fs, w, u, v, h, g => by
    have h : u = w := h
    subst h
    exact g
  | e :: r, fs, w, u, v, ⟨k, x, a, b, c⟩, g => ⟨k, x, a, b, Wo.app c g⟩
theorem Ws.wo {T : Mat} : ∀ {es : List Deed} {w v : List Int}, Ws T w es v → Wo T w es v
  | [], w, v, h => h
  | e :: r, w, v, ⟨k, x, a, b, c⟩ => ⟨k, x, .inl a, by rw [a]; exact b, Ws.wo c⟩
theorem mv_out_at {T : Mat} {h z : List Int} {a : Int} : mv T (h ++ [a] ++ (a :: z)) (.out h.length) = some (h ++ z) := by
  have e : h ++ [a] ++ (a :: z) = h ++ (a :: a :: z) := by rw [List.append_assoc]; rfl
  rw [e, mv_out]
  have g0 : (h ++ (a :: a :: z)).getD h.length 0 = a := by rw [List.getD_eq_getElem?_getD, List.getElem?_append_right (Nat.le_refl _), Nat.sub_self]; rfl
  have g1 : (h ++ (a :: a :: z)).getD (h.length + 1) 0 = a := by rw [List.getD_eq_getElem?_getD, List.getElem?_append_right (by omega), show h.length + 1 - h.length = 1 by omega]; rfl
  rw [g0, g1, if_pos ⟨by rw [List.length_append]; simp, rfl⟩, List.take_left]
  congr 2
  rw [show h ++ a :: a :: z = (h ++ [a, a]) ++ z by rw [List.append_assoc]; rfl, show h.length + 2 = (h ++ [a, a]).length by rw [List.length_append]; rfl, List.drop_left]
def tsStep (T : Mat) (s : List Deed × List Int) (a : Int) : List Deed × List Int :=
  if a ∈ fall (row T s.2) then (s.1 ++ ((bl T 40 s.2 a).2 ++ [.out ((bl T 40 s.2 a).1.length - 1)]), (bl T 40 s.2 a).1.take ((bl T 40 s.2 a).1.length - 1)) else (s.1, s.2 ++ [a])
def ts (T : Mat) (w : List Int) : List Deed × List Int := w.foldl (tsStep T) ([], [])
structure Tq (T : Mat) (u : List Int) (s : List Deed × List Int) : Prop where
  wd : Wd T.length s.2
  sh : Sh T s.2
  rw_ : row T s.2 = row T u
  le : s.2.length ≤ u.length
  few : s.1.length < 2 ^ u.length
  led : ∀ z, Wo T (u ++ z) s.1 (s.2 ++ z)
theorem Tq.nil {T : Mat} : Tq T [] ([], []) := by
  refine ⟨fun a ha => (nomatch ha), ?_, rfl, Nat.le_refl _, by decide, fun z => rfl⟩
  obtain ⟨k, hk, h0⟩ := LN.has (T := T) (w := []) fun a ha => (nomatch ha)
  have : k = 0 := by have : k ≤ 0 := h0; omega
  subst this
  exact hk
theorem Tq.bq {T : Mat} {u : List Int} {s : List Deed × List Int} (q : Tq T u s) {i : Nat} (hi : i < T.length) (c : ((i : Int) + 1) ∈ fall (row T s.2)) (hl : u.length ≤ 16) : Bq T s.2 i ∧ sz s.2 ((i : Int) + 1) < 40 := by
  refine ⟨⟨hi, q.wd, q.sh, (mem_fall (by rw [row_length]; exact hi)).mp c⟩, ?_⟩
  have := q.le
  unfold sz
  split <;> omega
theorem Tq.step {T : Mat} (ht : Tab T) {u : List Int} {s : List Deed × List Int} (q : Tq T u s) {i : Nat} (hi : i < T.length) (hl : u.length ≤ 16) : Tq T (u ++ [(i : Int) + 1]) (tsStep T s ((i : Int) + 1)) := by
  have lu : (u ++ [(i : Int) + 1]).length = u.length + 1 := by rw [List.length_append]; rfl
  have rs : row T (s.2 ++ [(i : Int) + 1]) = row T (u ++ [(i : Int) + 1]) := row_app q.rw_
  have p2 : 2 ^ (u.length + 1) = 2 ^ u.length * 2 := Nat.pow_succ ..
  unfold tsStep
  by_cases c : ((i : Int) + 1) ∈ fall (row T s.2)
  · rw [if_pos c]
    obtain ⟨b, szb⟩ := q.bq hi c hl
    have br := bl_ok ht 40 b szb
    generalize bl T 40 s.2 ((i : Int) + 1) = r at br
    obtain ⟨v, ev⟩ := br.last
    obtain ⟨a1, a2, a3⟩ := br.ws.all ht q.wd
    have lv : r.1.length - 1 = v.length := by rw [ev, List.length_append]; rfl
    have tv : r.1.take (r.1.length - 1) = v := by rw [lv, ev, List.take_left]
    have wv : Wd T.length v := fun x hx => a1 x (by rw [ev]; exact List.mem_append_left _ hx)
    have shr : Sh T (v ++ [(i : Int) + 1]) := by
      have := q.sh.cong q.wd a1 a3.symm
      rw [← a2, ev] at this
      exact this
    have pl : 2 ^ s.2.length ≤ 2 ^ u.length := Nat.pow_le_pow_right (by decide) q.le
    refine ⟨?_, ?_, ?_, ?_, ?_, fun z => ?_⟩
    · show Wd T.length (r.1.take (r.1.length - 1)); rw [tv]; exact wv
    · show Sh T (r.1.take (r.1.length - 1)); rw [tv]; exact (Sh.last ht hi wv shr).2
    · show row T (r.1.take (r.1.length - 1)) = _
      rw [tv, ← rs, ← row_undo ht hi (w := v), ← ev]
      exact row_app a3
    · show (r.1.take (r.1.length - 1)).length ≤ _
      rw [tv, lu]
      have := q.le
      have : v.length + 1 = s.2.length := by rw [← a2, ev, List.length_append]; rfl
      omega
    · show (s.1 ++ (r.2 ++ [Deed.out (r.1.length - 1)])).length < _
      rw [List.length_append, List.length_append, lu]
      show s.1.length + (r.2.length + 1) < _
      have := q.few
      have := br.few
      omega
    · show Wo T (u ++ [(i : Int) + 1] ++ z) (s.1 ++ (r.2 ++ [.out (r.1.length - 1)])) (r.1.take (r.1.length - 1) ++ z)
      rw [tv, lv, List.append_assoc u]
      refine (q.led ([(i : Int) + 1] ++ z)).app ?_
      refine Wo.app (Ws.suf (z := [(i : Int) + 1] ++ z) br.ws).wo ?_
      rw [ev]
      exact ⟨v.length, v ++ z, .inr rfl, mv_out_at, rfl⟩
  · rw [if_neg c]
    have m := LN.more ht q.wd q.sh hi
    rw [if_neg c] at m
    refine ⟨wd_app q.wd (wd_one hi), ?_, rs, ?_, ?_, fun z => ?_⟩
    · show LN T (s.2 ++ [(i : Int) + 1]) (s.2 ++ [(i : Int) + 1]).length
      rw [List.length_append]
      exact m
    · show (s.2 ++ [(i : Int) + 1]).length ≤ _
      rw [List.length_append, lu]
      have := q.le
      show s.2.length + 1 ≤ _
      omega
    · show s.1.length < _
      rw [lu]
      have := q.few
      omega
    · show Wo T (u ++ [(i : Int) + 1] ++ z) s.1 (s.2 ++ [(i : Int) + 1] ++ z)
      rw [List.append_assoc, List.append_assoc]
      exact q.led _
end BW
set_option maxHeartbeats 1000000
set_option autoImplicit false
namespace BW
open PySem L2 DL
def tbS (T : Mat) (w v : List Int) : Nat → List Int × List Deed
  | 0 => (w, [])
  | p + 1 => ((bl T 40 ((tbS T w v p).1.take (v.length - p)) (v.getD (v.length - p - 1) 0)).1, (tbS T w v p).2 ++ (bl T 40 ((tbS T w v p).1.take (v.length - p)) (v.getD (v.length - p - 1) 0)).2)
def tb (T : Mat) (w v : List Int) : List Deed := (tbS T w v v.length).2
theorem Sh.pre {T : Mat} (ht : Tab T) : ∀ (n : Nat) {z : List Int}, z.length = n → ∀ {w : List Int}, Wd T.length w → Wd T.length z → Sh T (w ++ z) → Sh T w
  | 0, z, hn, w, hw, hz, h => by
    have : z = [] := List.eq_nil_of_length_eq_zero hn
    subst this
    rw [List.append_nil] at h
    exact h
  | n + 1, z, hn, w, hw, hz, h => by
    rcases snoc_cases hz with e | ⟨y, i, hi, hy, e⟩
    · rw [e] at hn; cases hn
    · subst e
      rw [← List.append_assoc] at h
      rw [List.length_append, List.length_singleton] at hn
      exact Sh.pre ht n (by omega) hw hy (Sh.last ht hi (wd_app hw hy) h).2
structure Tb (T : Mat) (w v : List Int) (p : Nat) (s : List Int × List Deed) : Prop where
  wd : Wd T.length (s.1.take (v.length - p))
  sh : Sh T (s.1.take (v.length - p))
  rw_ : row T (s.1.take (v.length - p)) = row T (v.take (v.length - p))
  ln : (s.1.take (v.length - p)).length = v.length - p
  few : 2 * s.2.length + 2 ^ (v.length - p + 1) ≤ 2 ^ (v.length + 1)
  led : Ws T w s.2 (s.1.take (v.length - p) ++ v.drop (v.length - p))
structure Tp (T : Mat) (w v : List Int) : Prop where
  hw : Wd T.length w
  hv : Wd T.length v
  sw : Sh T w
  sv : Sh T v
  al : row T w = row T v
theorem Tp.len {T : Mat} {w v : List Int} (h : Tp T w v) : w.length = v.length := (h.sw.cong h.hw h.hv h.al).uniq h.sv
theorem Tp.zero {T : Mat} {w v : List Int} (h : Tp T w v) : Tb T w v 0 (w, []) := by
  have l := h.len
  have e : (w, ([] : List Deed)).1.take (v.length - 0) = w := by rw [Nat.sub_zero, ← l]; exact List.take_length
  have e2 : v.take (v.length - 0) = v := by rw [Nat.sub_zero]; exact List.take_length
  have e3 : v.drop (v.length - 0) = [] := by rw [Nat.sub_zero]; exact List.drop_length
  refine ⟨by rw [e]; exact h.hw, by rw [e]; exact h.sw, by rw [e, e2]; exact h.al, by rw [e, l]; rfl, ?_, ?_⟩
  · show 2 * 0 + 2 ^ (v.length - 0 + 1) ≤ _
    rw [Nat.sub_zero]
    omega
  · rw [e, e3, List.append_nil]; rfl
theorem Tp.at_ {T : Mat} {w v : List Int} (h : Tp T w v) {p : Nat} (hp : p < v.length) : ∃ j : Nat, j < T.length ∧ v[v.length - p - 1]? = some ((j : Int) + 1) ∧ v.getD (v.length - p - 1) 0 = (j : Int) + 1 ∧ v.take (v.length - p) = v.take (v.length - (p + 1)) ++ [(j : Int) + 1] ∧ v.drop (v.length - (p + 1)) = ((j : Int) + 1) :: v.drop (v.length - p) := by
  have hg : v[v.length - p - 1]? = some (v[v.length - p - 1]'(by omega)) := List.getElem?_eq_getElem _
  have wa := h.hv _ (List.getElem_mem (by omega : v.length - p - 1 < v.length))
  obtain ⟨j, ej⟩ : ∃ j : Nat, v[v.length - p - 1]'(by omega) = (j : Int) + 1 := ⟨(v[v.length - p - 1]'(by omega) - 1).toNat, by omega⟩
  rw [ej] at hg wa
  have e1 : v.length - (p + 1) = v.length - p - 1 := by omega
  have e2 : v.length - p = v.length - p - 1 + 1 := by omega
  refine ⟨j, by omega, hg, by rw [List.getD_eq_getElem?_getD, hg]; rfl, ?_, ?_⟩
  · rw [e1]
    conv => lhs; rw [e2]
    rw [List.take_succ, hg]; rfl
  · rw [e1, List.drop_eq_getElem_cons (by omega : v.length - p - 1 < v.length), ej, ← e2]
theorem Tb.bq {T : Mat} (ht : Tab T) {w v : List Int} (h : Tp T w v) {p j : Nat} {s : List Int × List Deed} (I : Tb T w v p s) (hp : p < v.length) (hj : j < T.length) (et : v.take (v.length - p) = v.take (v.length - (p + 1)) ++ [(j : Int) + 1]) (hl : v.length ≤ 16) :
    Bq T (s.1.take (v.length - p)) j ∧ sz (s.1.take (v.length - p)) ((j : Int) + 1) < 40 := by
  have wt : ∀ n, Wd T.length (v.take n) := fun n a ha => h.hv a (List.mem_of_mem_take ha)
  have wdp : ∀ n, Wd T.length (v.drop n) := fun n a ha => h.hv a (List.mem_of_mem_drop ha)
  have sp : Sh T (v.take (v.length - p)) := Sh.pre ht _ rfl (wt _) (wdp (v.length - p)) (by rw [List.take_append_drop]; exact h.sv)
  refine ⟨⟨hj, I.wd, I.sh, ?_⟩, ?_⟩
  · rw [I.rw_, et]
    rw [et] at sp
    exact (Sh.last ht hj (wt _) sp).1
  · unfold sz
    rw [I.ln]
    split <;> omega
theorem Tb.next {T : Mat} (ht : Tab T) {w v : List Int} (h : Tp T w v) {p : Nat} {s : List Int × List Deed} (I : Tb T w v p s) (hp : p < v.length) (hl : v.length ≤ 16) :
    Tb T w v (p + 1) ((bl T 40 (s.1.take (v.length - p)) (v.getD (v.length - p - 1) 0)).1, s.2 ++ (bl T 40 (s.1.take (v.length - p)) (v.getD (v.length - p - 1) 0)).2) := by
  obtain ⟨j, hj, _, eg, et, ed⟩ := h.at_ hp
  obtain ⟨b, szb⟩ := I.bq ht h hp hj et hl
  have br := bl_ok ht 40 b szb
  rw [eg]
  generalize bl T 40 (s.1.take (v.length - p)) ((j : Int) + 1) = r at br
  obtain ⟨x, ex⟩ := br.last
  obtain ⟨a1, a2, a3⟩ := br.ws.all ht I.wd
  have lx : x.length = v.length - (p + 1) := by
    have := I.ln
    have : x.length + 1 = r.1.length := by rw [ex, List.length_append]; rfl
    omega
  have tx : r.1.take (v.length - (p + 1)) = x := by rw [ex, ← lx, List.take_left]
  have wx : Wd T.length x := fun y hy => a1 y (by rw [ex]; exact List.mem_append_left _ hy)
  have shr : Sh T (x ++ [(j : Int) + 1]) := by
    have := I.sh.cong I.wd a1 a3.symm
    rw [← a2, ex] at this
    exact this
  have lf := br.few2
  rw [I.ln] at lf
  refine ⟨by rw [tx]; exact wx, by rw [tx]; exact (Sh.last ht hj wx shr).2, ?_, by rw [tx]; exact lx, ?_, ?_⟩
  · rw [tx]
    refine row_cancel ht hj ?_
    rw [← ex, ← et, a3, I.rw_]
  · show 2 * (s.2 ++ r.2).length + 2 ^ (v.length - (p + 1) + 1) ≤ _
    rw [List.length_append, show v.length - (p + 1) + 1 = v.length - p by omega]
    have := I.few
    have : 2 ^ (v.length - p + 1) = 2 ^ (v.length - p) * 2 := Nat.pow_succ ..
    omega
  · show Ws T w (s.2 ++ r.2) (r.1.take (v.length - (p + 1)) ++ v.drop (v.length - (p + 1)))
    rw [tx, ed]
    have e : x ++ ((j : Int) + 1) :: v.drop (v.length - p) = r.1 ++ v.drop (v.length - p) := by rw [ex, List.append_assoc]; rfl
    rw [e]
    exact I.led.app (Ws.suf br.ws)
theorem Tp.all {T : Mat} (ht : Tab T) {w v : List Int} (h : Tp T w v) (hl : v.length ≤ 16) : ∀ p, p ≤ v.length → Tb T w v p (tbS T w v p)
  | 0, _ => h.zero
  | p + 1, hp => (Tp.all ht h hl p (by omega)).next ht h (by omega) hl
theorem Tp.end_ {T : Mat} (ht : Tab T) {w v : List Int} (h : Tp T w v) (hl : v.length ≤ 16) : Ws T w (tb T w v) v := by
  have I := (h.all ht hl v.length (Nat.le_refl _)).led
  rw [Nat.sub_self, List.take_zero, List.drop_zero, List.nil_append] at I
  exact I
end BW
namespace DL
open PySem L2
open PySem.W (Frag)
end DL
namespace DL
open PySem L2
open PySem.W (Frag)
@[reducible] def Sl.plain : Sl → Bool
  | .own _ _ => false
  | _ => true
end DL
namespace DL
open PySem PySem.Spec PyProof.Rows L2
open PySem.W (Frag)
end DL
set_option maxHeartbeats 1000000
namespace DL
open PySem PySem.Spec PyProof.Rows L2
open PySem.W (Frag)
end DL
set_option maxHeartbeats 2000000
namespace XE1
open PySem PySem.W PySem.Calls PyProof.Rows PySem.HandSPX Builtin Builtin.ObjectAttr
structure Base (B newId initId : String) (bmB : List Value) : Prop where
  F : ExcBaseFacts B newId initId bmB
  S : StoreFacts B bmB "object.__setattr__" "object"
theorem baseV : Base "ValueError" "ValueError.__new__" "ValueError.__init__" [.type "ValueError", .type "Exception", .type "BaseException", .type "object"] := ⟨PySem.F.excBase_ValueError, PySem.F.store_ValueError⟩
end XE1
namespace DL
open PySem PySem.Spec PyProof.Rows L2
end DL
set_option maxHeartbeats 1000000
namespace DL
open PySem L2
open PySem.W (Frag)
def XRl (K : Frag) (H : Hp) (cls : Value) (dd : Option Addr) (d : D) : Prop := ∃ n ns ds vs, d = .exc n ns ds ∧ cls = .ref (He.ga K n) ∧ ExF H dd ns vs ∧ ns.length = vs.length ∧ RlA K H vs ds
theorem XRl.mono {K : Frag} {A B : Hp} (x : Sub A B) {cls : Value} {dd : Option Addr} {d : D} (h : XRl K A cls dd d) : XRl K B cls dd d := by
  obtain ⟨n, ns, ds, vs, e, c, f, l, r⟩ := h
  exact ⟨n, ns, ds, vs, e, c, f.mono x, l, r.mono x⟩
abbrev EX := D → S → Prop
def WL (c : C) (Ex : EX) : WX := fun cls dd σ H => ∃ s x, Rep c s σ H ∧ XRl c.K (c.hid s.X H) cls dd x ∧ Ex x s
theorem WL.imp {c : C} {Ex Ex' : EX} (h : ∀ d s, Ex d s → Ex' d s) : ∀ cls dd σ H, WL c Ex cls dd σ H → WL c Ex' cls dd σ H := fun _ _ _ _ ⟨s, x, r, e, q⟩ => ⟨s, x, r, e, h _ _ q⟩
abbrev DSpX := List D → Nat → (D → Nat → Prop) → (D → Nat → Prop) → Prop
def spDX (K : Frag) (hm : Bool) (sp : DSpX) : Sp := fun vs H Q E => ∃ (M : Option Mc) (X0 : List Addr) (k : Nat) (ds : List D) (ws : List V) (R Ex : D → Nat → Prop),
  (match hm with | true => ∃ m, (M = some m ∧ m.kd = none) ∧ vs = .ref m.pm :: ws | false => M = none ∧ vs = ws) ∧ Ahd K M X0 H k ws ds ∧ sp ds k R Ex ∧
  (∀ d k', R d k' → ∀ v H', Aft K M X0 H H' k' → Rl K (wo H' (Ml M ++ X0)) v d → Q v H') ∧
  ∀ d k', Ex d k' → ∀ cls dd H', Aft K M X0 H H' k' → XRl K (wo H' (Ml M ++ X0)) cls dd d → E cls dd H'
structure CalX (P : Program) (w : World) (K : Frag) (mg : PySem.Str → Option Value) (base : Heap) (k : Nat) (x : PySem.Str) (sp : DSpX) : Prop where
  ex : ∃ f fd ps, FnOk P w K mg base (L2.CX P w) k f fd ps (spDX K false sp) ∧ mg x = some (.ref f) ∧ PySem.W.keepIn K (.ref f) = true ∧ Binds K fd ps []
end DL
set_option maxHeartbeats 1000000
namespace DL
open PySem PySem.Spec PyProof.Rows L2
theorem fly_keep {base h h2 : Heap} {l : List Env} {e : Addr} {Z : Obj → Prop} (f : HandSPX.FlyingZ base l e Z h) (k : ∀ b o, h.get? b = some o → h2.get? b = some o) : HandSPX.FlyingZ base l e Z h2 := by
  obtain ⟨f1, f2, f3, oe, vs, T, oT, ts, g1, g2, g3, g4, g5, g6, g7, g8, g9⟩ := f
  exact ⟨fun b o q => k b o (f1 b o q), f2, f3.of_keeps fun b o q _ => ⟨o, k b o q, rfl⟩, oe, vs, T, oT, ts, k _ _ g1, g2, g3, g4, g5, g6, k _ _ g7, g8, g9⟩
section
variable {X : Cx} {pins : List (Addr × Obj)} {σ : L2.St} {H : Hp} {s : Shared}
theorem gone_suite {a : Addr} {oe : Obj} {pn' : List (Addr × Obj)} (I : Inv (X.suite a ((a, oe) :: (X.pn ++ pins))) pn' σ H s) (ok : X.Ok) : Inv X ((a, oe) :: pins) σ H s :=
  ⟨ok, I.os, I.bare, I.base, I.loc, I.cell, I.free, I.freeC, fun p hp => I.pin p (List.mem_append_left _ (by
    rcases List.mem_append.mp hp with h | h
    · exact List.mem_cons_of_mem _ (List.mem_append_left _ h)
    · rcases List.mem_cons.mp h with h | h
      · rw [h]; exact List.mem_cons_self
      · exact List.mem_cons_of_mem _ (List.mem_append_right _ h))), I.hok, I.len⟩
theorem track {a : Addr} {oe : Obj} {cls : Value} {d : Option Addr} (I : Inv X ((a, oe) :: pins) σ H s) (na : X.s_0.heap.get? a = none) (np : ∀ p ∈ X.pn ++ pins, p.1 ≠ a) (hz : Zc cls d oe) (hd : ∃ vs, oe.data = .fields vs) : Inv X pins σ (upd H a (xob a cls d)) s := by
  obtain ⟨g1, g2, g3, g4, g5⟩ := I.pin (a, oe) (List.mem_append_right _ List.mem_cons_self)
  obtain ⟨vs, hv⟩ := hd
  have ne : ∀ {b : Addr} {o : HO}, H b = some o → b ≠ a := fun {b o} e => ne_of_none e g2
  have st : ∀ {b : Addr} {o : Obj}, X.s_0.heap.get? b = some o → b ≠ a := fun {b o} e z => by rw [z, na] at e; cases e
  refine ⟨I.ok, I.os, I.bare, ⟨I.base.keep, I.base.slot, fun b o e n hx => by rw [upd_ne (st e)]; exact I.base.free b o e n hx, I.base.there, fun b xs e => ?_, fun b o u e => ?_, fun b ps e => ?_⟩, I.loc, I.cell, by rw [upd_ne (Ne.symm g3)]; exact I.free, fun y c e => ?_, fun p hp => ?_, fun b u e => ?_, I.len⟩
  · have q := I.base.tups b xs e
    rw [upd_ne (ne q)]; exact q
  · have q := I.base.frzs b o u e
    rw [upd_ne (ne q)]; exact q
  · obtain ⟨more, q⟩ := I.base.tbls b ps e
    exact ⟨more, by rw [upd_ne (ne q)]; exact q⟩
  · obtain ⟨v, oc, h1, h2⟩ := I.cell y c e
    rw [upd_ne (fun z => by
      rw [z, g1] at h1
      cases h1
      rw [hv] at h2; cases h2)]
    exact I.freeC y c e
  · obtain ⟨e1, e2, e3, e4, e5⟩ := I.pin p (by
      rcases List.mem_append.mp hp with h | h
      · exact List.mem_append_left _ h
      · exact List.mem_append_right _ (List.mem_cons_of_mem _ h))
    exact ⟨e1, by rw [upd_ne (np p hp)]; exact e2, e3, e4, e5⟩
  · by_cases hb : b = a
    · subst hb
      rw [upd_same] at e
      cases e
      exact ⟨⟨oe, vs, g1, hz, hv⟩, ⟨oe, g1⟩, fun h1 h2 ⟨o1, v1, y1, y2, y3⟩ k => ⟨o1, v1, k _ y1, y2, y3⟩⟩
    · rw [upd_ne hb] at e
      exact (I.hok b u e).stay (fun c w hc q => q) (fun c hc => by rw [upd_ne (ne hc)]; exact hc) fun c xs hc => by rw [upd_ne (ne hc)]; exact hc
end
def wKeep (K : PySem.W.Frag) (c1 c2 : Value) (i j : Nat) (Wout : WX) (D : Ends) : WX := fun cls d σ H =>
  ∃ b, PySem.W.exmAny K cls [c1, c2] = some b ∧ (b = true → ∀ a, H a = none → D.nx (((σ.set i (some (.ref a))).set j (some (.ref a))).set i none) (upd H a (xob a cls d))) ∧ (b = false → Wout cls d σ H)
section
variable {X : Cx} {x1 x2 n y : PySem.Str} {c1 c2 : Value} {i j kk : Nat} {body : List Stmt} {p1 p2 pt py pn pa pos pos' : Pos} {tb : WX → TS} {Wout : WX}
theorem ps_try_keep (hs : X.stack = X.env :: X.outer) (hf : X.env.frame = some X.env.locals) (hN : X.N.Nodup) (hi : X.N[i]? = some n) (hj : X.N[j]? = some y) (hln : X.env.kindOf n = some .local) (hly : X.env.kindOf y = some .local) (hne : i ≠ j) (hc1 : Names X x1 c1) (hc2 : Names X x2 c2) (hex : X.ex = []) (tk : Takes X Wout)
    (hb : ∀ (W : WX) (pn : List (Addr × Obj)) (xe : Value → Shared → Prop), Takes (X.tr pn xe) W → PassesOwn (model X.prog X.w) X.A X.env xe → PSs (X.tr pn xe) body (tb W))
    (hsu : ∀ (a : Addr) (oe : Obj) (pn' : List (Addr × Obj)), PSs (X.suite a ((a, oe) :: pn')) [.Assign [.Name y py] (.Name n pn) pa] (fun D σ H => σ[i]? = some (some (.ref a)) ∧ D.nx (σ.set j (some (.ref a))) H)) :
    PS X (.Try body [.ExceptHandler (some (.Tuple [.Name x1 p1, .Name x2 p2] kk pt)) (some n) [.Assign [.Name y py] (.Name n pn) pa] pos'] [] [] pos) (fun D σ H => tb (wKeep X.K c1 c2 i j Wout D) D σ H) := by
  refine ⟨fun pins s σ H D I h => ?_⟩
  have ok := I.ok
  have hfr : X.A.frames = some (X.env :: X.outer) := by rw [ok.frames, hs]
  refine wpAny_Try_except (wpAny_mono ((hb (wKeep X.K c1 c2 i j Wout D) (X.pn ++ pins) (fun e s1 => wpAny (model X.prog X.w) X.A (noteFrame e X.env) (fun _ s2 => wpAny (model X.prog X.w) X.A (setFlight e none) (fun _ s3 =>
    wpAny (model X.prog X.w) X.A (handleBy e X.env [.ExceptHandler (some (.Tuple [.Name x1 p1, .Name x2 p2] kk pt)) (some n) [.Assign [.Name y py] (.Name n pn) pa] pos']) (SP X pins D) X.xe s3) X.xe s2) X.xe s1) (fun u s2 air => ?_) PassesOwn.looking).run [] s σ H D (I.toTry _) h) (fun fl s2 sp => ?_) (fun _ _ z => z))
  · obtain ⟨a, B, sI, pins2, τ, G, cls, d, rfl, J0, nb, up, sky, na, os, ag, b, hb1, yes, no⟩ := air
    have J : Inv X pins τ G sI := J0.ofTry ok
    have sky2 : Sky B (X.env :: X.outer) a (Zc cls d) X.env.locals s2.heap := by rw [← hs]; exact sky
    show wpAny (model X.prog X.w) X.A (noteFrame (.ref a) X.env) _ _ _
    refine Sky.land Zc.steady hfr hf sky2 fun h3 fl3 up3 => ?_
    have newB : B.get? a = none := fl3.2.1
    have on : ∀ {h4 : Heap} (f4 : HandSPX.FlyingZ B (X.env :: X.outer) a (Zc cls d) h4), a ≠ X.env.locals ∧ a ∉ X.fs := fun {h4} f4 => by
      obtain ⟨o4, v4, e4, _, d4⟩ := f4.there
      have nfr : a ∉ frs (X.env :: X.outer) := fun hm => by
        obtain ⟨_, o', e', hnf⟩ := f4.2.2.1.mem hm
        rw [e4] at e'; cases e'
        exact hnf _ d4
      refine ⟨fun z => nfr (List.mem_filterMap.mpr ⟨X.env, List.mem_cons_self, by rw [hf, z]⟩), fun hm => ?_⟩
      obtain ⟨e, he, q⟩ := List.mem_filterMap.mp hm
      exact nfr (List.mem_filterMap.mpr ⟨e, List.mem_cons_of_mem _ he, q⟩)
    obtain ⟨nL, nF⟩ := on fl3
    have land : ∀ {h4 : Heap}, HandSPX.FlyingZ B (X.env :: X.outer) a (Zc cls d) h4 → s2.heap.UpToSlots h4 → Inv X pins τ G { s2 with heap := h4 } := fun f4 u4 => J.landed nb f4.1 (up.trans u4) os ag
    obtain ⟨o3, v3, e3, z3, d3⟩ := fl3.there
    have S3 := (land fl3 up3).suite e3 d3 na nL nF
    refine wpAny_handleBy_cons (codeAny_handlers_test ?_) (by intro q; cases q)
    have name : ∀ {x : PySem.Str} {c : Value} {p : Pos} {Q : Value → Shared → Prop} {E : Value → Shared → Prop}, Names X x c → Q c { s2 with heap := h3 } → wpAny (model X.prog X.w) (X.A.mark (some (.ref a))) (eval (.Name x p) X.env) Q E { s2 with heap := h3 } := fun {x c p Q E} hc q => by
      obtain ⟨hg, hdbg, hm | ⟨hm, hv, hnn⟩⟩ := hc
      · exact ld_glob (X := X.suite a ((a, o3) :: (X.pn ++ pins))) S3 hg hm q hdbg
      · exact ld_blt (X := X.suite a ((a, o3) :: (X.pn ++ pins))) S3 hg hm hv q hnn hdbg
    refine wpAny_Tuple (wpAny_items_cons (name hc1 (wpAny_items_cons (name hc2 (wpAny_items_nil ⟨by size_fits, ?_⟩)))))
    generalize hT : h3.push { cls := .type "tuple", data := .seq [c1, c2].toArray } = h4
    have k34 : ∀ b o, h3.get? b = some o → h4.get? b = some o := fun b o q => by rw [← hT]; exact Heap.get?_push_of_some _ q
    have at4 : h4.get? h3.objs.size = some { cls := .type "tuple", data := .seq [c1, c2].toArray } := by rw [← hT]; exact Heap.get?_push_size h3 rfl
    have fl4 := fly_keep fl3 k34
    have up4 : s2.heap.UpToSlots h4 := up3.trans (Heap.UpToSlots.of_keeps k34)
    have J4 := land fl4 up4
    have LT : PySem.W.Looks (model X.prog X.w) h4 (typeOf (.ref a)) cls := fun A Q E s k q => wpAny_typeOf_ref (k _ _ (k34 _ _ e3)) (by rw [z3.1]; exact q)
    refine (PySem.W.exm_tup2 (M := model X.prog X.w) J4.kIn LT at4 hb1).here ?_
    cases b with
    | true =>
      refine codeAny_handlers_suite_as (HandSPX.lands_againZ fl4 fun h5 fl5 up5 => ?_)
      have J5 := land fl5 (up4.trans up5)
      obtain ⟨o5, v5, e5, z5, d5⟩ := fl5.there
      have S5 := J5.suite e5 d5 na nL nF
      refine store_ok (X := X.suite a ((a, o5) :: (X.pn ++ pins))) (v := .ref a) S5 hN hi (.inl hln) rfl (fun s6 S6 => ?_) (.inr hln)
      have li : i < τ.length := by rw [J5.len]; exact (List.getElem?_eq_some_iff.mp hi).1
      refine wpAny_mono ((hsu a o5 (X.pn ++ pins)).run [] s6 _ G { nx := fun σ6 H6 => σ6 = (τ.set i (some (.ref a))).set j (some (.ref a)) ∧ H6 = G, rt := fun _ _ => False, bk := fun _ _ => False, ct := fun _ _ => False } S6 ⟨List.getElem?_set_self li, rfl, rfl⟩) (fun f s7 sp => ?_) (fun _ _ z => False.elim z)
      cases f with
      | next =>
        obtain ⟨σ7, H7, S7, rfl, rfl⟩ := sp
        have S7' := gone_suite S7 ok
        refine gone_ok S7' hN hi hln fun s8 J8 => ⟨_, _, track J8 ?_ (fun p hp => ?_) z5 ⟨_, d5⟩, yes rfl a na⟩
        · cases q : X.s_0.heap.get? a with
          | none => rfl
          | some o =>
            obtain ⟨o', q1⟩ := J.base.there a o q (by rw [hex]; simp)
            have q2 := nb a o' q1 (fun hm => ?_)
            · rw [newB] at q2; cases q2
            · rw [hs] at hm
              rcases List.mem_filterMap.mp hm with ⟨e, he, q3⟩
              rcases List.mem_cons.mp he with rfl | he
              · exact nL (by rw [hf] at q3; cases q3; rfl)
              · exact nF (List.mem_filterMap.mpr ⟨e, he, q3⟩)
        · intro z
          obtain ⟨q1, _, q3, q4, _⟩ := J.pin p hp
          have q2 := nb p.1 p.2 q1 (fun hm => by
            rw [hs] at hm
            rcases List.mem_filterMap.mp hm with ⟨e, he, q5⟩
            rcases List.mem_cons.mp he with rfl | he
            · exact q3 (Option.some.inj (hf.symm.trans q5)).symm
            · exact q4 (List.mem_filterMap.mpr ⟨e, he, q5⟩))
          rw [z, newB] at q2; cases q2
      | brk => obtain ⟨_, _, _, q⟩ := sp; exact q.elim
      | cont => obtain ⟨_, _, _, q⟩ := sp; exact q.elim
      | ret u => obtain ⟨_, _, _, _, _, q⟩ := sp; exact q.elim
    | false =>
      show wpAny _ X.A (handleBy (.ref a) X.env []) _ _ _
      refine wpAny_handleBy_nil ?_
      obtain ⟨k1, k2, k3, oe, vs, T, oT, ts2, he, hz, hd, h1, hr⟩ := id fl4
      unfold PySem.passOn
      refine wpAny_bind (wpAny_field he hd h1 ?_)
      rw [if_neg (show ¬ ((Value.ref T == Value.none) = true) from by simp)]
      have fin : wpAny (model X.prog X.w) X.A (setFlight (.ref a) X.env.frame) (fun _ s4 => wpAny (model X.prog X.w) X.A (throw (.ref a) : Sem Flow) (SP X pins D) X.xe s4) X.xe { s2 with heap := h4 } := by
        rw [hf]
        exact HandSPX.setFlight_upZ fl4 fun h6 hh6 up6 => wpAny_throw (tk _ _ ⟨a, B, sI, pins, τ, G, cls, d, rfl, J, nb, (up.trans up4).trans up6, .inr (.inr (by rw [hs]; exact hh6)), na, os, ag, no rfl⟩)
      first
        | exact wpAny_bind (wpAny_pure (wpAny_bind fin))
        | exact wpAny_bind fin
  · cases fl with
    | next =>
      obtain ⟨τ, G, J, q⟩ := sp
      exact wpAny_execs_nil ⟨τ, G, J.ofTry ok, q⟩
    | brk =>
      obtain ⟨τ, G, J, q⟩ := sp
      exact ⟨τ, G, J.ofTry ok, q⟩
    | cont =>
      obtain ⟨τ, G, J, q⟩ := sp
      exact ⟨τ, G, J.ofTry ok, q⟩
    | ret u =>
      obtain ⟨v, τ, G, J, r, q⟩ := sp
      exact ⟨v, τ, G, J.ofTry ok, r, q⟩
end
end DL
set_option maxHeartbeats 1000000
namespace DL
open PySem L2
open PySem.W (Frag)
@[reducible] def Sl.noOwn : Sl → Bool
  | .own _ _ => false
  | _ => true
abbrev C.from (c : C) (s : S) (H : Hp) : C := ⟨c.K, c.M, s.X, H, c.ow⟩
section
variable {c : C} {s s2 : S} {σ τ : L2.St} {H G : Hp}
theorem Rep.from (r : Rep c s σ H) (no : s.sl.all Sl.noOwn = true) : Rep (c.from s H) s σ H :=
  ⟨Sub.refl _, fun _ _ _ _ => rfl, fun _ h => h, r.xm, r.xs, r.m, fun i x e => by
    have q := r.slot i x e
    cases x with
    | own p ds =>
      have := List.all_eq_true.mp no _ (List.mem_of_getElem? e)
      cases this
    | no => exact q
    | dat d => exact q
    | mst => exact q
    | kds N Z => exact q
    | scr ns => exact q, r.apart, r.len, .refl, r.xt⟩
theorem Rep.back (r : Rep c s σ H) (q : Rep (c.from s H) s2 τ G) : Rep c s2 τ G :=
  ⟨r.sub.trans q.sub, fun a h1 h2 h3 => (q.old a (r.x0 a h1) h2 (r.xs a (r.x0 a h1))).trans (r.old a h1 h2 h3), fun a h => q.x0 a (r.x0 a h), q.xm, q.xs, q.m, fun i x e => by
    have y := q.slot i x e
    cases x with
    | own p ds =>
      obtain ⟨e', h1, h2, h3, vs, h4, h5⟩ := y
      exact ⟨e', h1, fun z => h2 (r.x0 p z), (r.nofree h3).2.2.2, vs, h4, h5⟩
    | no => exact y
    | dat d => exact y
    | mst => exact y
    | kds N Z => exact y
    | scr ns => exact y, q.apart, q.len, r.tb.trans q.tb, q.xt⟩
theorem Fits.from {DD : DEnds} {D : Ends} (r : Rep c s σ H) (f : Fits c s.X H DD D) : Fits (c.from s H) s.X H DD D :=
  ⟨fun s' σ' H' q a h => f.nx s' σ' H' (r.back q) a h, fun s' σ' H' q a h => f.bk s' σ' H' (r.back q) a h, fun s' σ' H' q a h => f.ct s' σ' H' (r.back q) a h, fun d k v H' fi e h =>
    have up : Sub (c.hid s.X H') (c.hid c.X0 H') := wo_more fun a h => (List.mem_append.mp h).elim (List.mem_append_left _) fun h => List.mem_append_right _ (r.x0 a h)
    f.rt d k v H' ⟨r.sub.trans (fi.sub.trans up), fun a h1 h2 h3 => (fi.old a (r.x0 a h1) h2 (r.xs a (r.x0 a h1))).trans (r.old a h1 h2 h3), fi.m, r.tb.trans fi.tb⟩ (e.mono up) h⟩
end
end DL
set_option maxHeartbeats 1000000
namespace DL
open PySem PySem.Spec PyProof.Rows L2 LamX
theorem Takes.len {X : Cx} {W : WX} (t : Takes X W) : Takes X (fun cls d σ H => σ.length = X.N.length → W cls d σ H) := fun u s' ⟨a, B, sI, pins, σ, H, cls, d, e, I, nb, up, sky, na, os, ag, w⟩ =>
  t u s' ⟨a, B, sI, pins, σ, H, cls, d, e, I, nb, up, sky, na, os, ag, w I.len⟩
theorem PE.ex {X : Cx} {e : Expr} {t : TE} (h : PE X e t) : PE X e (fun σ H Q => ∃ R : VK, t σ H R ∧ ∀ v H', R v H' → Q v H') := ⟨fun p s σ H Q I ⟨R, q, f⟩ => thn (h.run p s σ H R I q) fun u s1 ⟨x, H1, I1, r, q1⟩ => ⟨x, H1, I1, r, f _ _ q1⟩⟩
end DL
set_option maxHeartbeats 1000000
namespace DL
open PySem PySem.Spec PyProof.Rows L2 LamX
@[reducible] def Sl.nOwn : Sl → Sl
  | .own _ _ => .no
  | x => x
abbrev S.nOwn (s : S) : S := ⟨s.X, s.sl.map Sl.nOwn, s.k⟩
abbrev dTold (ns : List PySem.Str) (spC : DSp) (t : EX → DE) : DE := fun s Q => t (fun x s' => (∃ n fs ds, x = .exc n fs ds ∧ n ∈ ns) ∧ spC [x] 0 fun d _ => Q d s'.k) s.nOwn fun d k => Q (.lst [d]) k
theorem Rep.fromN {c : C} {s : S} {σ : L2.St} {H : Hp} (r : Rep c s σ H) : Rep (c.from s H) s.nOwn σ H := by
  refine ⟨Sub.refl _, fun _ _ _ _ => rfl, fun _ h => h, r.xm, r.xs, r.m, fun i x e => ?_, fun i j p q ds es e => ?_, ?_, .refl, r.xt⟩
  · have e : (s.sl.map Sl.nOwn)[i]? = some x := e
    rw [List.getElem?_map] at e
    obtain ⟨y, hy, rfl⟩ := Option.map_eq_some_iff.mp e
    have q := r.slot i y hy
    cases y with
    | own p ds => trivial
    | no => exact q
    | dat d => exact q
    | mst => exact q
    | kds N Z => exact q
    | scr ns => exact q
  · have e : (s.sl.map Sl.nOwn)[i]? = some (.own p ds) := e
    rw [List.getElem?_map] at e
    obtain ⟨y, hy, z⟩ := Option.map_eq_some_iff.mp e
    cases y <;> cases z
  · have := r.len
    show (s.sl.map Sl.nOwn).length = _
    rw [List.length_map]; exact this
def NoTs (H : Hp) : Prop := ∀ a ps, H a ≠ some (.tbl ps)
theorem tbk_none {A B : Hp} (h : NoTs A) (u : ∀ a vs, Rd A a (.tup vs) → Rd B a (.tup vs)) : TbK A B := by
  refine ⟨fun T t p hp => ?_, fun p ps e => absurd e (h p ps), u⟩
  obtain ⟨ps, e, _⟩ := t p hp
  exact absurd e (h _ ps)
theorem Rep.extN {c : C} {s : S} {σ : L2.St} {H H1 : Hp} {m : Mc} (r : Rep c s σ H) (hM : c.M = some m) (h0 : NoTs c.H0) (ex : ExtN H H1) (tb : Tabs m.T H1) : Rep c s σ H1 ∧ AdvE c s.X H H1 := by
  have sub : Sub (c.hid s.X H) (c.hid s.X H1) := fun a o e => by
    obtain ⟨n, h, nt⟩ := wo_all e
    exact wo_of n (ex a o h nt) nt
  have rdN : ∀ {a : Addr} {vs : List V}, Rd H a (.tup vs) → Rd H1 a (.tup vs) := fun {a vs} h => by
    rcases h with h | ⟨o, h⟩
    · exact .inl (ex _ _ h (fun _ z => by cases z))
    · exact .inr ⟨o, ex _ _ h (fun _ z => by cases z)⟩
  have same : ∀ a ∈ s.X, H1 a = H a := fun a ha => by
    cases e : H a with
    | none => exact absurd e (r.xs a ha)
    | some o => exact ex a o e fun ps z => r.xt a ha ps (by rw [e, z])
  refine ⟨r.step (k := s.k) sub (fun a ha _ => same a ha) ?_ (tbk_none h0 fun a vs h => rdN (r.tb.tup a vs h)), sub, same⟩
  have q := r.m
  rw [hM] at q ⊢
  cases ek : m.kd with
  | some kn =>
    obtain ⟨L, o⟩ := q.kn ek
    exact .ofK ek ⟨L, ex _ _ o.hp (fun _ z => by cases z), o.pc, o.pg, fun x hx => (o.keys x hx).imp (fun h => rdN h) id, o.val, o.z, o.nd, o.lz, tb⟩
  | none =>
  obtain ⟨cs, gs, n, ok, le, _⟩ := q.dr ek
  exact .of ek ⟨cs, gs, n, ⟨ex _ _ ok.hm (fun _ z => by cases z), ex _ _ ok.hc (fun _ z => by cases z), ex _ _ ok.hg (fun _ z => by cases z), ok.lc, ok.bc, ok.lg, ok.bg⟩, le, tb⟩
end DL
set_option maxHeartbeats 1000000
namespace DL
open PySem PySem.Spec PyProof.Rows L2
open PySem.W (Frag)
structure ExK (K : Frag) (C : Addr) : Prop where
  xf : XfC K C
  cl : (PySem.W.clsIn K C).isSome = true
  ca : PySem.W.findIn K (.ref C) "__class__" = some (some (.builtin "object.__class__"))
  cg : PySem.W.specialIn K (.builtin "object.__class__") "__get__" = some (some (.builtin "getset_descriptor.__get__"))
  tk : PySem.W.takesIn K (.builtin "object.__class__") = some true
  ob : PySem.W.mroIn K C (.type "object") = some true
theorem exkB_ok {K : Frag} {C : Addr} (h : exkB K C = true) : ExK K C := by
  obtain ⟨h1, h⟩ := Bool.and_eq_true_iff.mp h
  obtain ⟨h2, h⟩ := Bool.and_eq_true_iff.mp h
  obtain ⟨h3, h⟩ := Bool.and_eq_true_iff.mp h
  obtain ⟨h4, h⟩ := Bool.and_eq_true_iff.mp h
  obtain ⟨h5, h6⟩ := Bool.and_eq_true_iff.mp h
  exact ⟨xfB_ok h1, h2, of_decide_eq_true h3, of_decide_eq_true h4, of_decide_eq_true h5, of_decide_eq_true h6⟩
section
variable {X : Cx} {pins : List (Addr × Obj)} {σ : L2.St} {H : Hp} {s : Shared}
theorem inst_exc {a C : Addr} {dd : Option Addr} {ns : List PySem.Str} {vs : List V} (I : Inv X pins σ H s) (h : H a = some (xob a (.ref C) dd)) (f : ExF H dd ns vs) :
    ∃ (ox : Obj) (od : Option Obj), PySem.W.InstAt s.heap a ox C od ∧ ∀ n v, (ns.zip vs).lookup n = some v → ∃ o u, od = some o ∧ PySem.W.lookIn n o = some (some u) ∧ RelV v u := by
  obtain ⟨⟨oe, ws, e1, ⟨e2, e3⟩, e4⟩, _, _⟩ := (show ObjOk X.prog X.w H s.heap a (xob a (.ref C) dd) from I.hok a _ h)
  have nc : PySem.W.notCls oe = true := by unfold PySem.W.notCls; rw [e4] <;> rfl
  rcases f with ⟨rfl, rfl⟩ | ⟨d, rfl, hd⟩
  · exact ⟨oe, none, ⟨e1, e2, nc, by rw [e3]; trivial⟩, fun n v z => by cases z⟩
  · obtain ⟨mA, hns, hr⟩ := (show ObjOk X.prog X.w H s.heap d (.xd (ns.zip vs)) from I.hok d _ hd)
    obtain ⟨od, ho, hl⟩ := lookIn_ns hns
    refine ⟨oe, some od, ⟨e1, e2, nc, by rw [e3]; exact ho⟩, fun n v z => ?_⟩
    obtain ⟨u, hu, ru⟩ := RelO.some_of (v := v) (o := mA n) (by rw [← z]; exact hr n)
    exact ⟨od, u, rfl, by rw [hl, hu], ru⟩
theorem call_isiE : CallR X (.builtin "isinstance") (fun xs H Q => ∃ (a C D : Addr) (dd : Option Addr) (ns : List PySem.Str) (vs : List V) (b : Bool), xs = [.ref a, .ref D] ∧ H a = some (xob a (.ref C) dd) ∧ ExF H dd ns vs ∧ ExK X.K C ∧ PySem.W.kitOne X.K (.ref C) (.ref D) = some b ∧ Q (.bl b) H) := by
  intro pins s σ H xs us Q I r h
  obtain ⟨a, C, D, dd, ns, vs, b, rfl, ha, hf, T, e, q⟩ := h
  obtain ⟨u1, u2, rfl, r1, r2⟩ := vals2 r
  cases (show u1 = Value.ref a from r1)
  cases (show u2 = Value.ref D from r2)
  obtain ⟨ox, od, J, _⟩ := inst_exc I ha hf
  exact PySem.W.kia_one (PySem.W.kitx_exc T.cl T.xf.ga T.xf.gg T.xf.exC T.ca T.cg T.tk T.ob) I.kIn J e (fun z => nomatch z) fun tk => ⟨.bl b, H, I.tok tk, rfl, q⟩
end
abbrev dIsiE (K : Frag) (D : PySem.Str) (t : DE) : DE := fun s Q => t s fun d k => ∃ n ns ds b, d = .exc n ns ds ∧ ExK K (He.ga K n) ∧ PySem.W.kitOne K (.ref (He.ga K n)) (.ref (He.ga K D)) = some b ∧ Q (.bl b) k
abbrev dXf (K : Frag) (f : PySem.Str) (t : DE) : DE := fun s Q => t s fun d k => ∃ n ds e, d = .exc n [f] ds ∧ ds = [e] ∧ ExK K (He.ga K n) ∧ PySem.W.findIn K (.ref (He.ga K n)) f = some none ∧ Q e k
section
variable {X : Cx} {c : C} {pos p : Pos}
theorem pd_isiE (hK : c.K = X.K) (hm : X.mg "isinstance" = none) {D : PySem.Str} (hD : X.mg D = some (.ref (He.ga X.K D))) {e : Expr} {t : DE} {pt : Pos} (h : PE X e (LE c t)) (hg : Gl X "isinstance" := by rfl) (hgT : Gl X D := by rfl) (hdT : (D == ("__debug__" : PySem.Str)) = false := by decide)
    (hs : starEach [e, Expr.Name D pt] X.env = (false, eval e X.env) :: starEach [Expr.Name D pt] X.env := by rfl) (hs2 : starEach [Expr.Name D pt] X.env = (false, eval (Expr.Name D pt) X.env) :: starEach [] X.env := by rfl) (hp : (backTo pos (starEach [Expr.Name D pt] X.env)).any (·.1) = false := by rfl) :
    PE X (.Call (.Name "isinstance" p) [e, .Name D pt] [] pos) (LE c (dIsiE X.K D t)) :=
  (pe_callB call_isiE hg hm PyProof.Rows.boot_isinstance (pa_cons h (pa_cons (pe_glob (v := .ref (He.ga X.K D)) hgT hD rfl hdT) pa_nil hs2) hs) (he := hs) (hpl := hp)).weak fun σ H Q ⟨s, R, rp, q, f⟩ => ⟨s, _, rp, q, fun d k ⟨n, ns, ds, b, h1, h2, h3, h4⟩ v H1 r1 a1 e1 => by
    subst h1
    cases e1 with
    | exc hx hf hl hr => exact ⟨_, _, _, _, _, _, b, rfl, by rw [← hK]; exact wo_sub _ _ _ _ hx, hf.mono (wo_sub _ _), h2, h3, f _ k h4 _ H1 r1 a1 (.bl _)⟩⟩
theorem pd_xf (hK : c.K = X.K) {n : PySem.Str} {e : Expr} {t : DE} (he : PE X e (LE c t)) (hb : attributeBase e n X.env (eval e X.env) = eval e X.env := by rfl) : PE X (.Attribute e n pos) (LE c (dXf X.K n t)) := by
  refine ⟨fun pins s σ H Q I ⟨st, R, rp, q, f⟩ => attr_of hb (thn (he.run pins s σ H (fun v H1 => ∃ (k : Nat) (d : D) (e' : PySem.Str × D), d = .exc e'.1 [n] [e'.2] ∧ ExK X.K (He.ga X.K e'.1) ∧ PySem.W.findIn X.K (.ref (He.ga X.K e'.1)) n = some none ∧ R e'.2 k ∧ Rep c (st.at k) σ H1 ∧ AdvE c st.X H H1 ∧ Rl c.K (c.hid st.X H1) v d) I ⟨st, _, rp, q, fun d k hd v H1 r1 a1 e1 => ?_⟩) fun u s1 hh => ?_)⟩
  · obtain ⟨m, ds, e', rfl, rfl, h2, h3, h4⟩ := hd
    exact ⟨k, _, (m, e'), rfl, h2, h3, h4, r1, a1, e1⟩
  · obtain ⟨x, H1, I1, rx, k, d, ⟨m, e'⟩, rfl, T, hno, hR, r1, a1, e1⟩ := hh
    cases e1 with
    | exc hx hf hl hr =>
      rename_i a dd vs
      obtain rfl : u = Value.ref a := rx
      cases hr with
      | cons h1 h2 =>
        cases h2
        rename_i v
        have hx' : H1 a = some (xob a (.ref (He.ga X.K m)) dd) := by rw [← hK]; exact wo_sub _ _ _ _ hx
        obtain ⟨ox, od, J, look⟩ := inst_exc I1 hx' (hf.mono (wo_sub _ _))
        obtain ⟨o, w, rfl, hl2, rw2⟩ := look n v (by show List.lookup n [(n, v)] = some v; rw [List.lookup_cons, beq_self_eq_true])
        exact HandSPX.exc_get I1.kIn J T.xf.ga T.xf.gg T.xf.exC (PySem.W.findObj_own T.xf.hdC hno rfl hl2) (handed_of rw2) ⟨v, H1, I1.tok _, rw2, f _ _ hR v H1 r1 a1 h1⟩
end
end DL
set_option maxHeartbeats 1000000
namespace DL
open PySem L2
open PySem.W (Frag)
abbrev dFrzS (t : DS) : DS := fun DD s => ∀ X, t DD ⟨X, s.sl.map Sl.frz, s.k⟩
abbrev dPlN (i : Nat) (t : DE) : DA := fun s Q => ∃ p ds, s.sl[i]? = some (.own p ds) ∧ t s fun d k => ∃ es, d = .lst es ∧ ds.length + es.length ≤ lim ∧ Q (ds ++ es) k
section
variable {X : Cx} {c : C} {pos : Pos}
theorem psd_frz {st : Stmt} {t : DS} (h : PS X st (LS c t)) : PS X st (LS c (dFrzS t)) := h.weak fun D σ H ⟨s, DD, rp, q, f⟩ => ⟨_, DD, rp.frz, q c.X0, f.on rp.sub0⟩
theorem pdf_plN (i : Nat) {x : PySem.Str} {pn : Pos} {e : Expr} {t : DE} (he : PE X e (LE c t)) (hN : X.N[i]? = some x := by rfl) (hv : Vis X.env.scope x := by first | exact Or.inl rfl | exact Or.inr (Or.inl rfl) | exact Or.inr (Or.inr rfl)) (hd : (x == ("__debug__" : PySem.Str)) = false := by decide) (hcd : (x == ("__classdict__" : PySem.Str)) = false := by decide) :
    PE X (.BinOp (.Name x pn) .Add e pos) (LF c (dPlN i t)) :=
  (pe_op op_cat (pe_var hN hv hd hcd) he).weak fun σ H Q ⟨s, R, rp, ⟨p, ds, h, q⟩, f⟩ => by
    obtain ⟨e1, h1, h2, h3, vs, h4, h5⟩ := rp.slot i _ h
    refine ⟨_, e1, s, _, rp, q, fun d k ⟨es, hd, hl, hR⟩ v H1 r1 a1 e2 => ?_⟩
    subst hd
    obtain ⟨b, us, rfl, h6, r6⟩ := e2.lstE
    have h7 : H1 p = some (.lst vs) := by rw [a1.own p h1]; exact h4
    exact ⟨p, b, vs, us, rfl, rfl, h7, wo_sub _ _ _ _ h6, by rw [h5.len, r6.len]; exact Nat.le_of_lt (lim_lt hl), fun y hy => f _ k hR y _ (NewL.mk' r1 a1 ((h5.mono a1.sub).app r6) hy)⟩
end
end DL
set_option maxHeartbeats 1000000
namespace L2G
open PySem PySem.Spec PyProof.Rows L2 LamX
theorem lawGT {P : Program} {w : World} {K : PySem.W.Frag} {mg mb : Str → Option Value} {k : Nat} {fa a : Addr} {cs : List (Addr × Addr)} {fd : FuncData} {x : Str} {sp : Sp} {s₁ : Shared} {vs : List Value} {ns : List Int}
    (kin : K.In s₁.heap) (gns : s₁.heap.Ns mainGlobals mg) (bns : s₁.heap.Ns builtinsNs mb) (bbo : ∀ x : Str, x ≠ "__name__" → mb x = bootBuiltins x) (nlim : s₁.heap.NoLimit) (gens : s₁.gens = #[])
    (tabs : ∀ p ∈ cs, s₁.heap.get? p.2 = some { cls := .none, data := .fields #[] }) (offT : ∀ p ∈ cs, K.lookup p.2 = none) (heads : ∀ p ∈ cs, PySem.W.CodeHd s₁.heap p.1 p.2)
    (bmod : ∃ (bm : Addr) (ob : Obj), mg "__builtins__" = some (.ref bm) ∧ bm ≠ builtinsNs ∧ s₁.heap.get? bm = some ob ∧ ob.cls = .type "module" ∧ ob.dict = some builtinsNs ∧ ob.data = .plain)
    (ob : s₁.heap.get? a = some { cls := .type "list", data := .seq vs.toArray }) (iar : IntsAre vs ns) (small : ns.length ≤ sizeLine) (room : Room k callerA)
    (F : ∀ base : Heap, K.In base → base.Ns mainGlobals mg → (∀ p ∈ cs, TabB base mg p.1 p.2) → FnG P w K mg base k fa fd [x] sp) (bind : ∀ (s : Shared) (u : Value), BindsTo s fd ⟨[u], []⟩ [(x, u)])
    (prom : ∀ H : Hp, (∀ p ∈ cs, H p.2 = some (.tbl #[])) → SqL K H a (ns.map V.int) → sp [.ref a] H (fun v _ => v = .bl true) fun _ _ _ => False) :
    codeAny (model P w) callerA (.call (.ref fa) ⟨[.ref a], []⟩) (fun r s' => r = .ok (.ret (.bool true)) ∧ OldK s₁.heap s'.heap ∧ s'.os = s₁.os ∧ AllBare s'.gens) s₁ := by
  have rel := vals_ints iar
  have same := iar.length
  let ts : List Addr := cs.map (·.2)
  have inTs : ∀ p ∈ cs, p.2 ∈ ts := fun p hp => List.mem_map.mpr ⟨p, hp, rfl⟩
  have tab_at : ∀ b ∈ ts, s₁.heap.get? b = some { cls := .none, data := .fields #[] } ∧ K.lookup b = none ∧ ∃ p ∈ cs, p.2 = b := fun b hb => by
    obtain ⟨p, hp, rfl⟩ := List.mem_map.mp hb
    exact ⟨tabs p hp, offT p hp, p, hp, rfl⟩
  have a_off : a ∉ ts := fun z => by
    have q := (tab_at a z).1
    rw [ob] at q
    cases congrArg (fun o => o.map Obj.data) q
  have main : ∀ H : Hp, (∀ b ∈ ts, H b = some (.tbl #[])) → (∀ b u, H b = some u → b ∈ ts ∨ (b = a ∧ ∃ o ys, u = .frz o (.lst ys))) → SqL K H a (ns.map V.int) → HOk P w H s₁.heap → (H a ≠ none → K.lookup a = none) →
      codeAny (model P w) callerA (.call (.ref fa) ⟨[.ref a], []⟩) (fun r s' => r = .ok (.ret (.bool true)) ∧ OldK s₁.heap s'.heap ∧ s'.os = s₁.os ∧ AllBare s'.gens) s₁ := by
    intro H hTb hOnly sq hk offK
    have tabH : ∀ p ∈ cs, H p.2 = some (.tbl #[]) := fun p hp => hTb _ (inTs p hp)
    -- what is tracked is the script or a table
    have free : ∀ {b : Addr} {o : Obj}, s₁.heap.get? b = some o → (∀ xs n, o.data ≠ .seq xs n) → o.data ≠ .fields #[] → H b = none := fun {b o} z n1 n2 => by
      cases y : H b with
      | none => rfl
      | some u =>
        exfalso
        rcases hOnly b u y with i | ⟨rfl, _⟩
        · rw [(tab_at b i).1] at z
          cases z
          exact n2 rfl
        · rw [ob] at z
          cases z
          exact n1 _ _ rfl
    have down : ∀ {b : Addr} {o : Obj}, s₁.heap.get? b = some o → (∀ xs n, o.data ≠ .seq xs n) → o.data ≠ .fields #[] → (hidT s₁.heap H).get? b = some o := fun {b o} z n1 n2 => hidT_get z (free z n1 n2)
    have ns_down : ∀ {b : Addr} {m : Str → Option Value}, s₁.heap.Ns b m → (hidT s₁.heap H).Ns b m := fun {b m} ⟨o, es, ep, z, d, r⟩ => ⟨o, es, ep, down z (fun xs n i => by rw [d] at i; cases i) (fun i => by rw [d] at i; cases i), d, r⟩
    have kin2 : K.In (hidT s₁.heap H) := fun b o z => by
      refine hidT_get (kin b o z) ?_
      cases y : H b with
      | none => rfl
      | some u =>
        exfalso
        rcases hOnly b u y with i | ⟨rfl, _⟩
        · rw [(tab_at b i).2.1] at z
          cases z
        · rw [offK (by rw [y]; simp)] at z
          cases z
    have md : L2.Mod K mg (hidT s₁.heap H) := by
      obtain ⟨mc, l1, l2⟩ := nlim
      exact ⟨kin2, ns_down gns, ⟨mb, ns_down bns, bbo⟩, mc, ns_down l1, l2⟩
    have tbs : ∀ p ∈ cs, TabB (hidT s₁.heap H) mg p.1 p.2 := by
      intro p hp
      have tp := tabs p hp
      constructor
      · obtain ⟨o, us, file, tf, flags, tg, inF, text, tt, g1, g2, g3, g4, g5, g6, g7, g8, g9, g10⟩ := heads p hp
        refine ⟨o, us, file, tf, flags, tg, inF, text, tt, down g1 (fun xs n i => ?_) (fun i => ?_), g2, g3, g4, g5, g6, g7, g8, g9, g10⟩
        · rw [g3] at i; cases i
        · rw [g3] at i; cases i; simp at g4
      · obtain ⟨bm, om, q1, q2, q3, q4, q5, q6⟩ := bmod
        refine ⟨bm, om, q1, q2, ?_, ?_, down q3 (fun xs n i => ?_) (fun i => ?_), q4, q5, q6⟩
        · rintro rfl
          obtain ⟨o, es, ep, z, d, _⟩ := gns
          rw [z] at q3
          cases q3
          rw [q6] at d
          cases d
        · rintro rfl
          rw [tp] at q3
          cases q3
          cases q6
        · rw [q6] at i; cases i
        · rw [q6] at i; cases i
      · intro z
        obtain ⟨o, es, ep, y, d, _⟩ := gns
        rw [z, tp] at y
        cases y
        cases d
    have env : Env0 P w K mg (hidT s₁.heap H) callerA [] s₁ H := ⟨rfl, md, fun b o z => of_hidT z, Nat.le_of_eq (hidT_size _ _), trivial, fun b z => absurd (show b ∈ ([] : List Addr) from z) (by simp), hk, .of_eq gens⟩
    refine codeAny_mono ((F _ kin2 (ns_down gns) tbs).run callerA [] s₁ H ⟨[.ref a], []⟩ [.ref a] [.ref a] _ _ room rfl env (bind s₁ (.ref a)) (.cons rfl .nil) (prom H tabH sq)) fun out s2 fin => ?_
    cases out with
    | error e => exact (show False from fin).elim
    | ok fl =>
      cases fl with
      | next => exact (show False from fin).elim
      | brk => exact (show False from fin).elim
      | cont => exact (show False from fin).elim
      | ret u =>
        obtain ⟨v, H2, eos, bare, un, hk2, rv, q⟩ := fin
        obtain rfl : v = .bl true := q
        obtain rfl : u = Value.bool true := rv
        have more : ∀ b ∈ ts, ∃ ys : Array Value, s2.heap.get? b = some { cls := .none, data := .fields ys } := fun b hb => by
          obtain ⟨ys, z⟩ := un.tbls b #[] (hTb b hb)
          exact ⟨_, hk2 b _ z⟩
        have rest : ∀ b o, b ∉ ts → s₁.heap.get? b = some o → s2.heap.get? b = some o := fun b o nb z => by
          cases y : H b with
          | none => exact un.keep b o z y (fun i => absurd (show b ∈ ([] : List Addr) from i) (by simp)) (by simp)
          | some t =>
            rcases hOnly b t y with i | ⟨_, o2, ys, rfl⟩
            · exact absurd i nb
            · obtain ⟨g1, _⟩ := hk b _ y
              obtain ⟨g2, _⟩ := hk2 b _ (un.frzs b o2 _ y)
              rw [z] at g1
              cases g1
              exact g2
        refine ⟨rfl, ⟨fun b o z => ?_, fun b o z => ?_⟩, eos, bare⟩
        · by_cases i : b ∈ ts
          · obtain ⟨e1, _, p, hp, rfl⟩ := tab_at b i
            obtain ⟨ys, e2⟩ := more _ i
            rw [e1] at z
            cases z
            exact .inr (.inl ⟨((heads p hp).tab e1).isCodeTable, rfl, #[], ys, rfl, by rw [Array.empty_append]; exact e2⟩)
          · exact .inl (rest b o i z)
        · by_cases i : b ∈ ts
          · obtain ⟨ys, e2⟩ := more b i
            exact ⟨_, e2⟩
          · exact ⟨o, rest b o i z⟩
  cases lk : K.lookup a with
  | some o =>
    have z := kin a o lk
    rw [ob] at z
    cases z
    obtain ⟨H0, at_t, off⟩ : ∃ H0 : Hp, (∀ b ∈ ts, H0 b = some (.tbl #[])) ∧ ∀ b, b ∉ ts → H0 b = none := ⟨fun b => if b ∈ ts then some (.tbl #[]) else none, fun b i => if_pos i, fun b i => if_neg i⟩
    refine main H0 at_t (fun b u z => ?_) (.inr ⟨_, vs.toArray, _, lk, rfl, rfl, rfl, by rw [List.size_toArray, same]; exact small, by simpa using rel⟩) (fun b u z => ?_) fun z => absurd (off a a_off) z
    · by_cases i : b ∈ ts
      · exact .inl i
      · rw [off b i] at z; cases z
    · by_cases i : b ∈ ts
      · rw [at_t b i] at z
        cases z
        exact (tab_at b i).1
      · rw [off b i] at z; cases z
  | none =>
    obtain ⟨H0, at_a, at_t, off⟩ : ∃ H0 : Hp, H0 a = some (.frz { cls := .type "list", data := .seq vs.toArray } (.lst (ns.map V.int))) ∧ (∀ b ∈ ts, H0 b = some (.tbl #[])) ∧ ∀ b, b ≠ a → b ∉ ts → H0 b = none := by
      refine ⟨fun b => if b ∈ ts then some (.tbl #[]) else if b = a then some (.frz { cls := .type "list", data := .seq vs.toArray } (.lst (ns.map V.int))) else none, ?_, fun b i => if_pos i, fun b i j => ?_⟩
      · show (if a ∈ ts then _ else _) = _
        rw [if_neg a_off, if_pos rfl]
      · show (if b ∈ ts then _ else _) = _
        rw [if_neg j, if_neg i]
    refine main H0 at_t (fun b u z => ?_) (.inl (.inr ⟨_, at_a⟩)) (fun b u z => ?_) fun _ => lk
    · by_cases i : b ∈ ts
      · exact .inl i
      · by_cases e : b = a
        · subst e
          rw [at_a] at z
          cases z
          exact .inr ⟨rfl, _, _, rfl⟩
        · rw [off b e i] at z; cases z
    · by_cases i : b ∈ ts
      · rw [at_t b i] at z
        cases z
        exact (tab_at b i).1
      · by_cases e : b = a
        · subst e
          rw [at_a] at z
          cases z
          exact ⟨ob, by rw [List.length_map]; exact small, vs, _, rel, ob⟩
        · rw [off b e i] at z; cases z
theorem walkGT {l : PySem.W.OpenLaw} {n k : Nat} {q : Program} {loose : List Str} {XP : (Str → Option Value) → Heap → Prop} {YP : World → Heap → Prop} {d : DefRec} {x : Str}
    (most : l.most = some n) (le : n ≤ sizeLine) (nodf : d.params.defaults = []) (room : Room k callerA)
    (F : ∀ (w : World) (mg : Str → Option Value) (fa : Addr) (h : Heap), YP w h → h.Ns mainGlobals mg → mg d.name = some (.ref fa) →
      ∃ (K : PySem.W.Frag) (fd : FuncData) (sp : Sp) (cs : List (Addr × Addr)), K.In h ∧ (∀ p ∈ cs, h.get? p.2 = some { cls := .none, data := .fields #[] }) ∧ (∀ p ∈ cs, K.lookup p.2 = none) ∧ (∀ p ∈ cs, PySem.W.CodeHd h p.1 p.2) ∧ (∀ (s : Shared) (u : Value), BindsTo s fd ⟨[u], []⟩ [(x, u)]) ∧
        (∀ (H : Hp) (a : Addr) (ns : List Int), ns.length ≤ n → (∀ p ∈ cs, H p.2 = some (.tbl #[])) → SqL K H a (ns.map V.int) → sp [.ref a] H (fun v _ => v = .bl true) fun _ _ _ => False) ∧
        ∀ base : Heap, K.In base → base.Ns mainGlobals mg → (∀ p ∈ cs, TabB base mg p.1 p.2) → FnG l.prog w K mg base k fa fd [x] sp) :
    PySem.W.WalkO q loose XP YP l.row.toRowW d [] (fun f vs => PySem.call f vs) := by
  refine Att.attach_call most nodf fun w s0 s1 mg mb fa o pm cd doc a vs ns G Y _ _ _ named obj iar len gens => ?_
  obtain ⟨K, fd, sp, cs, kin, e1, e2, e3, bind, prom, ok⟩ := F w mg fa _ Y G.T.g named
  exact lawGT kin G.T.g G.T.b G.T.builtins G.T.nolimit gens e1 e2 e3 G.T.bmain obj iar (Nat.le_trans len le) room ok bind fun H tb sq => prom H a ns len tb sq
end L2G
set_option maxHeartbeats 1000000
namespace DL
open PySem PySem.Spec PyProof.Rows L2 LamX
open PySem.W (Frag)
def LwC (c : C) (T : List (Addr × PySem.Str)) : Prop := (∃ m, c.M = some m ∧ m.T = T ∧ m.kd = none) ∧ NoTs c.H0
structure InT (T : List (Addr × PySem.Str)) (Pt : Addr) (q : PySem.Str) : Prop where
  mem : (Pt, q) ∈ T
  uni : ∀ p ∈ T, p.1 = Pt → p.2 = q
end DL
namespace L2G
open PySem PySem.Spec PyProof.Rows L2
theorem okGT {P : Program} {w : World} {K : PySem.W.Frag} {mg : Str → Option Value} {base : Heap} {x qual : Str} {st : Stmt} {p : Str × Option Str} {fd : FuncData} {N ps : List Str} {k : Nat} {sp : Sp} (F : Fun K x qual st (He.fAd K p) fd) (S : FnScope N ps (defScope st)) (ln : ∀ vs H Q E, sp vs H Q E → vs.length = ps.length)
    (bd : ∀ (cdv : Value) (A : Around) (ou : List Env) (s : Shared) (H : Hp) (vs : List V) (Q : VK) (E : XK), cdv = .ref (He.codeOf K p) → Room k (A.deeper (envOfC qual (defScope st) s.heap.objs.size (He.fAd K p) cdv)) → (A.deeper (envOfC qual (defScope st) s.heap.objs.size (He.fAd K p) cdv)).guards = some [] → sp vs H Q E →
      ∃ t, PSs (cxOf CX0 P w K mg base N qual (defScope st) (He.fAd K p) cdv A ou s H E).nox (defBody st) t ∧ t { nx := fun _ H' => Q .non H', rt := Q } (L2.start N vs) H) : FnG P w K mg base (k + 1) (He.fAd K p) fd ps sp := by
  obtain ⟨oc, od, kV, doc, pm, an, cdv, ct, osl, rfl, lk, cdok⟩ := F.ex
  obtain ⟨cc, rfl⟩ := He.codeIn_ref cdok
  have ecc : He.codeOf K p = cc := He.codeOf_eq lk rfl
  refine ⟨ln, fun A ou s H ar us vs Q E room gu en bi rv hs => ?_⟩
  have lv := ln _ _ _ _ hs
  have inK : K.In s.heap := en.mod.kin.keeps fun a u z => (en.bs a u z).1
  have nlim : s.heap.NoLimit := en.mod.nolimit.keeps fun a u z => (en.bs a u z).1
  have kinds : ∀ y ∈ ps.zip us, (defScope st).names.lookup y.1 = some .local ∨ ((defScope st).names.lookup y.1 = some .cell ∧ ((cellsFrom (s.heap.objs.size + 1) (defScope st).names []).lookup y.1).isSome = true) := by
    rintro ⟨nm, vl⟩ hy
    exact (S.par nm (List.of_mem_zip hy).1).imp id fun z => ⟨z, PySem.W.cellsFrom_some _ _ _ (.inl z)⟩
  refine codeAny_call_function room.depth (inK _ _ lk) rfl S.co S.gen rfl (PySem.W.codeRec_of inK cdok) (bi _ _ _ _ ?_)
  refine wpAny_newFunctionEnv_cells S.kind kinds fun env same s1 ic => ?_
  subst same
  refine ⟨nlim.keeps ic.toInCall.keep, codeAny_func ?_⟩
  obtain ⟨t, walk, ends⟩ := bd (.ref cc) A ou s H vs Q E (by rw [ecc]) (room.deeper _) gu hs
  have I0 := inv_start (CX := CX0) (E := E) S room.hd en lv rv ic
  refine wpAny_mono (walk.nox.run [] s1 (L2.start N vs) H _ I0 ends) (fun fl s2 hfl => ?_) fun _ _ z => z
  cases fl with
  | ret u =>
    obtain ⟨v, τ, H2, J, r2, q2⟩ := hfl
    exact ⟨v, H2, J.os, J.bare, J.base, J.hok, r2, q2⟩
  | next =>
    obtain ⟨τ, H2, J, q2⟩ := hfl
    exact ⟨V.non, H2, J.os, J.bare, J.base, J.hok, rfl, q2⟩
  | brk =>
    obtain ⟨_, _, _, q2⟩ := hfl
    exact q2.elim
  | cont =>
    obtain ⟨_, _, _, q2⟩ := hfl
    exact q2.elim
end L2G
set_option maxHeartbeats 1000000
namespace BW
open PySem L2 DL
theorem wd_let {T : Mat} : ∀ (f : Nat) {r : List Int}, r.length = T.length → Wd T.length (wd T f r).1
  | 0, r, _ => fun a ha => (nomatch ha)
  | f + 1, r, hr => by
    cases e : fall r with
    | nil => rw [wd_nil e]; exact fun a ha => (nomatch ha)
    | cons a q =>
      rw [wd_cons e]
      obtain ⟨i, ea, hi, _⟩ := fall_mem (by rw [e]; exact List.mem_cons_self : a ∈ fall r)
      intro z hz
      rcases List.mem_cons.mp hz with rfl | hz
      · omega
      · exact wd_let f (press_length T r (ix a)) z hz
end BW
set_option maxHeartbeats 1000000
namespace BW
open PySem L2 DL
def bk (w : List Int) : Deed → Deed
  | .inn k _ => .out k
  | .out k => .inn k (w.getD k 0)
  | .turn k => .turn k
end BW
set_option maxHeartbeats 1000000
namespace DL
open PySem L2
open PySem.W (Frag)
section
variable {P : Program} {w : World} {K : Frag} {mg : PySem.Str → Option Value} {base : Heap} {k : Nat} {f : Addr} {fd : FuncData} {ps : List PySem.Str} {hm : Bool} {sp : DSp} {spX : DSpX} {x : PySem.Str}
theorem calm_ok (F : FnOk P w K mg base (L2.CX P w) k f fd ps (spDX K hm spX)) (h : ∀ ds k R, sp ds k R → spX ds k R (fun _ _ => False)) : FnOk P w K mg base CX0 k f fd ps (spD K hm sp) := by
  have key : ∀ vs H Q E, spD K hm sp vs H Q E → spDX K hm spX vs H Q (fun _ _ _ => False) := fun vs H Q E ⟨M, X0, k, ds, ws, R, h1, a, h2, h3⟩ => ⟨M, X0, k, ds, ws, R, fun _ _ => False, h1, a, h _ _ _ h2, h3, fun _ _ q => q.elim⟩
  refine ⟨fun vs H Q E q => F.len _ _ _ _ (key _ _ _ _ q), fun A outer s H args us vs Q E hr he hb hv hs => ?_⟩
  refine codeAny_mono (F.run A outer s H args us vs Q _ hr he hb hv (key _ _ _ _ hs)) fun r s' q => ?_
  cases r with
  | ok o => cases o <;> exact q
  | error e =>
    obtain ⟨_, _, _, _, _, _, _, _, _, _, _, _, z⟩ := (show L2.CX P w outer H s (fun _ _ _ => False) e s' from q)
    exact z.elim
theorem CalX.calm (F : CalX P w K mg base k x spX) (h : ∀ ds k R, sp ds k R → spX ds k R (fun _ _ => False)) : CalD P w K mg base k x false sp := by
  obtain ⟨f, fd, ps, G, hm, kp, b⟩ := F.ex
  exact ⟨f, fd, ps, calm_ok G h, hm, kp, b⟩
end
end DL
namespace BW
open PySem L2 DL
def fm (n : Nat) (f : Nat → Nat → Int) : Mat := (List.range n).map fun i => (List.range n).map fun j => f i j
theorem fm_len (n : Nat) (f : Nat → Nat → Int) : (fm n f).length = n := by unfold fm; rw [List.length_map, List.length_range]
theorem fm_row {n : Nat} {f : Nat → Nat → Int} {i : Nat} (h : i < n) : (fm n f).getD i [] = (List.range n).map fun j => f i j := by unfold fm; rw [getD_range h]
theorem fm_at {n : Nat} {f : Nat → Nat → Int} {i j : Nat} (hi : i < n) (hj : j < n) : at2 (fm n f) i j = f i j := by
  unfold at2
  rw [fm_row hi, getD_range hj]
def fsw (f : Nat → Nat → Int) (a b : Nat) (v : Int) : Nat → Nat → Int := fun i j => if (i = a ∧ j = b) ∨ (i = b ∧ j = a) then v else f i j
theorem fm_sw {n : Nat} {f : Nat → Nat → Int} {a b : Nat} {v : Int} (ha : a < n) (hb : b < n) (ne : a ≠ b) : ((fm n f).set a (((fm n f).getD a []).set b v)).set b (((fm n f).getD b []).set a v) = fm n (fsw f a b v) := by
  have r1 : ((fm n f).getD a []).set b v = (List.range n).map fun j => fsw f a b v a j := by
    rw [fm_row ha]
    refine set_range fun j hj => ?_
    unfold fsw
    by_cases e : j = b
    · rw [if_pos e, if_pos (.inl ⟨rfl, e⟩)]
    · rw [if_neg e, if_neg (by omega)]
  have r2 : ((fm n f).getD b []).set a v = (List.range n).map fun j => fsw f a b v b j := by
    rw [fm_row hb]
    refine set_range fun j hj => ?_
    unfold fsw
    by_cases e : j = a
    · rw [if_pos e, if_pos (.inr ⟨rfl, e⟩)]
    · rw [if_neg e, if_neg (by omega)]
  rw [r1, r2]
  show (((List.range n).map fun i => (List.range n).map fun j => f i j).set a _).set b _ = _
  rw [set_range (g' := fun i => if i = a then (List.range n).map (fun j => fsw f a b v a j) else (List.range n).map (fun j => f i j)) (fun j _ => rfl)]
  refine set_range fun i hi => ?_
  by_cases e : i = b
  · rw [if_pos e, e]
  · rw [if_neg e]
    by_cases e2 : i = a
    · rw [if_pos e2, e2]
    · rw [if_neg e2]
      refine List.map_congr_left fun j hj => ?_
      unfold fsw
      rw [if_neg (by omega)]
structure S8 (m : Mc) (n : Nat) (way : Int) (p : Addr) (σ : L2.St) : Prop where
  len : σ.length = 8
  e0 : σ[0]? = some (some (.ref m.pm))
  e2 : σ[2]? = some (some (.int n))
  e3 : σ[3]? = some (some (.int way))
  e4 : σ[4]? = some (some (.ref p))
  kd : m.kd = none
theorem S8.set {m : Mc} {n : Nat} {way : Int} {p : Addr} {σ : L2.St} (h : S8 m n way p σ) {i : Nat} (hi : 5 ≤ i) (v : Option V) : S8 m n way p (σ.set i v) :=
  ⟨by rw [List.length_set]; exact h.len, by rw [List.getElem?_set_ne (by omega)]; exact h.e0, by rw [List.getElem?_set_ne (by omega)]; exact h.e2, by rw [List.getElem?_set_ne (by omega)]; exact h.e3, by rw [List.getElem?_set_ne (by omega)]; exact h.e4, h.kd⟩
end BW
set_option maxHeartbeats 1000000
namespace BW
open PySem L2 DL
abbrev badWord (d : D) : D := .exc "BadWord" ["place"] [d]
abbrev tooGreat (z : Int) : D := .exc "TooGreat" ["most"] [.int z]
def BadW (n : Nat) (d x : D) : Prop :=
  (d.items = none ∧ d.tname.isSome = true ∧ x = badWord .non) ∨
  (∃ xs, d.items = some xs ∧ 60 < xs.length ∧ x = tooGreat 60) ∨
  ∃ pre y post, d.items = some (pre ++ y :: post) ∧ (pre ++ y :: post).length ≤ 60 ∧ (∀ z ∈ pre, z.tname.isSome = true ∧ D.isL n z = true) ∧ y.tname.isSome = true ∧ D.isL n y = false ∧ x = badWord (.int pre.length)
end BW
set_option maxHeartbeats 1000000
namespace L2
open PySem PySem.Spec PyProof.Rows HT
theorem no_tuple_iadd : typeLookup (.type "tuple") (dunderI "add") = pure none := by rw [typeLookup_type, builtinLookup_eq_fast]; kernel_rfl
section
variable {prog : Program} {w : World} {A : Around} {E : Value → Shared → Prop} {s : Shared}
theorem iconcat_meets {T id : String} {B : Builtin} {a b : Value} {S : PySem.Spec} {Q : Value → Shared → Prop} (ha : s.TypeIs a T) (hb : s.TypeIs b T) (hno : typeLookup (.type T) (dunderI "add") = pure none)
    (hfill : fillsNumberSlot (.type T) "add" = pure false) (hseq : seqSlot? (.type T) "__add__" = pure (some (.builtin id))) (slot : Slot T "__add__" id)
    (entry : entryFor table id = some B) (args : argsOk id ⟨[a, b], []⟩) (g : Meets (B ⟨[a, b], []⟩) S) (h : S A (wants Q E) s) : wpAny (model prog w) A (inplaceOp .Add a b) Q E s :=
  PySem.wpAny_inplaceOp_concat ha hb hno hfill hseq (call_meets slot ha entry args g h)
theorem icat_tup {t b : Addr} {vs ws : List Value} {Q : Value → Shared → Prop} (ht : IsTup s.heap t vs.toArray) (hb : IsTup s.heap b ws.toArray)
    (h0 : vs = [] → Q (.ref b) s) (h1 : vs ≠ [] → ws = [] → Q (.ref t) s) (h2 : vs ≠ [] → ws ≠ [] → Q (.ref s.heap.objs.size) { s with heap := s.heap.push { cls := .type "tuple", data := .seq (vs ++ ws).toArray } })
    (hsz : vs.length + ws.length ≤ sizeLine) : wpAny (model prog w) A (inplaceOp .Add (.ref t) (.ref b)) Q E s := by
  obtain ⟨⟨cls, dd, data, sl⟩, ho, hc, n, hd⟩ := id ht
  obtain ⟨⟨cls2, dd2, data2, sl2⟩, ho2, hc2, n2, hd2⟩ := id hb
  simp only at hc hd hc2 hd2
  subst hc hd hc2 hd2
  have e : vs.toArray ++ ws.toArray = (vs ++ ws).toArray := by simp
  by_cases hv : vs = []
  · exact iconcat_meets ⟨_, ho, rfl⟩ ⟨_, ho2, rfl⟩ no_tuple_iadd noFill_tuple_add seq_tuple_add PySem.F.slot_tuple_add PySem.F.entry_tuple_add (PySem.F.args_tuple_add_2 _ _)
      (tuple_addW0 t b vs.toArray ws.toArray n n2 dd dd2 sl sl2 (by simp [hv])) ⟨ho, ho2, h0 hv⟩
  · by_cases hw : ws = []
    · exact iconcat_meets ⟨_, ho, rfl⟩ ⟨_, ho2, rfl⟩ no_tuple_iadd noFill_tuple_add seq_tuple_add PySem.F.slot_tuple_add PySem.F.entry_tuple_add (PySem.F.args_tuple_add_2 _ _)
        (tuple_addW1 t b vs.toArray ws.toArray n n2 dd dd2 sl sl2 (by simpa using hv) (by simp [hw])) ⟨ho, ho2, h1 hv hw⟩
    · refine iconcat_meets ⟨_, ho, rfl⟩ ⟨_, ho2, rfl⟩ no_tuple_iadd noFill_tuple_add seq_tuple_add PySem.F.slot_tuple_add PySem.F.entry_tuple_add (PySem.F.args_tuple_add_2 _ _)
        (tuple_addW2 t b vs.toArray ws.toArray n n2 dd dd2 sl sl2 (by simpa using hv) (by simpa using hw) (by rw [List.size_toArray, List.size_toArray]; exact hsz)) ⟨ho, ho2, ?_⟩
      rw [e]
      exact h2 hv hw
end
theorem iop_catA {X : Cx} : OpR X (inplaceOp .Add) (rCatA X.K) := by
  intro pins s σ H x y v u Q I rx ry h
  obtain ⟨a, b, xs, ys, rfl, rfl, ha, hb, hz, q0, q1, q2⟩ := h
  cases rx
  cases ry
  obtain ⟨its, r1, p1, _⟩ := I.tuple ha
  obtain ⟨its2, r2, p2, _⟩ := I.tuple hb
  refine icat_tup p1 p2 (fun z => ⟨.ref b, H, I, rfl, q0 (r1.nil_iff.mp z)⟩) (fun z z2 => ⟨.ref a, H, I, rfl, q1 (fun w => z (r1.nil_iff.mpr w)) (r2.nil_iff.mp z2)⟩) (fun z z2 => ?_) (by rw [← r1.length, ← r2.length]; exact hz)
  refine ⟨.ref s.heap.objs.size, _, I.laid (t' := s.toks) (o := .tup (xs ++ ys)) (fun b ob q => Heap.get?_push_of_some _ q) (Nat.le_refl _) ?_, rfl, q2 (fun w => z (r1.nil_iff.mpr w)) (fun w => z2 (r2.nil_iff.mpr w)) _ (I.hok.fresh (Nat.le_refl _))⟩
  exact ⟨by rw [List.length_append]; exact hz, _, r1.append r2, IsTup.new _ _⟩
end L2
namespace DL
open PySem L2
open PySem.W (Frag)
abbrev oAddT : O2 := fun x y Q => match x, y with
  | .tup a, .tup b => a.length + b.length ≤ lim ∧ Q (.tup (a ++ b))
  | _, _ => False
theorem fit_addT {X : Cx} {c : C} (hK : c.K = X.K) : Fit2 c (rCatA X.K) oAddT := fun s σ H x y a b R Q rp hx hy ho w => by
  cases a <;> first
    | exact ho.elim
    | (cases b <;> first
        | exact ho.elim
        | (obtain ⟨p, vs, rfl, h1, r1⟩ := Rl.tupE hx
           obtain ⟨q, us, rfl, h2, r2⟩ := Rl.tupE hy
           refine ⟨p, q, vs, us, rfl, rfl, hK ▸ (wo_sub _ _).st h1, hK ▸ (wo_sub _ _).st h2, ?_, fun e => ?_, fun _ e => ?_, fun _ _ => w.tup rp ho.2 (r1.app r2)⟩
           · rw [r1.len, r2.len]
             exact lim_le ho.1
           · subst e
             cases r1
             exact w.same rp ho.2 hy
           · subst e
             cases r2
             refine w.same rp ho.2 ?_
             rw [List.append_nil]
             exact hx))
abbrev dAugT (i : Nat) (t : DE) : DS := fun DD s => ∃ d, s.sl[i]? = some (.dat d) ∧ t s fun e k => oAddT d e fun z => DD.nx ((s.put i (.dat z)).at k)
abbrev dStar (t : DE) (u : DA) : DA := fun s Q => t s fun d k => ∃ ds, d.items = some ds ∧ u (s.at k) fun es k' => Q (ds ++ es) k'
section
variable {X : Cx} {c : C}
theorem psd_augT (hK : c.K = X.K) (i : Nat) {x : PySem.Str} {e : Expr} {t : DE} {pos pos' : Pos} (hN : X.N.Nodup) (he : PE X e (LE c t)) (hi : X.N[i]? = some x := by rfl) (hx : Loc X.env.scope x := by first | exact Or.inl rfl | exact Or.inr rfl) (hf : X.fn x = true ∨ X.env.scope.names.lookup x = some .local := by first | exact .inl rfl | exact .inr rfl) :
    PS X (.AugAssign (.Name x pos') .Add e pos) (LS c (dAugT i t)) :=
  (ps_aug (pos := pos) (pos' := pos') (ti := rCatA X.K) hN hi hx he iop_catA hf).weak fun D σ H ⟨s, DD, rp, ⟨d, h, q⟩, f⟩ => by
    obtain ⟨v, e1, rv⟩ := rp.slot i _ h
    refine ⟨v, e1, s, _, rp, q, fun y k hy u H1 r1 a1 e2 => ?_⟩
    refine fit_addT hK (s.at k) σ H1 v u d y _ _ r1 (rv.mono a1.sub) e2 hy fun z hz w H2 r2 a2 e3 => ?_
    exact f.nx _ _ _ (r2.putD (i := i) e3) (a1.sub.trans a2.sub) hz
theorem pad_star (hK : c.K = X.K) {e : Expr} {es : List Expr} {p : Pos} {t : DE} {u : DA} (ha : PE X e (LE c t)) (hr : PA X es (LA c u)) (hs : starEach (.Starred e p :: es) X.env = (true, eval e X.env) :: starEach es X.env := by rfl) : PA X (.Starred e p :: es) (LA c (dStar t u)) :=
  (StX.pa_star ha hr hs).weak fun σ H Q ⟨s, R, rp, q, f⟩ => by
    refine ⟨s, _, rp, q, fun d k ⟨ds, hd, hu⟩ v H1 r1 a1 e1 => ?_⟩
    obtain ⟨a, vs, rfl, h, r⟩ := e1.items hd
    refine ⟨a, vs, rfl, ?_, s.at k, _, r1, hu, fun es k2 h2 us H2 r2 a2 e2 => f _ k2 h2 _ H2 r2 (a1.trans a2) ((r.mono a2.sub).app e2)⟩
    have z := sq_all (wo_sub _ _) h
    exact (hK ▸ z).symm
end
end DL
set_option maxHeartbeats 1000000
set_option maxHeartbeats 1000000
set_option maxHeartbeats 1000000
namespace BW
open PySem L2 DL
theorem drop_at {α : Type} {xs : List α} {i : Nat} {x : α} (h : xs[i]? = some x) : xs.drop i = x :: xs.drop (i + 1) := by
  obtain ⟨hi, e⟩ := List.getElem?_eq_some_iff.mp h
  rw [List.drop_eq_getElem_cons hi, e]
end BW
set_option maxHeartbeats 1000000
set_option maxHeartbeats 1000000
namespace BW
open PySem L2 DL
open PySem.W (Frag)
theorem tupIs_ok {K : Frag} {v : Value} {ns : List Int} (h : tupIs K v ns = true) : ∃ b, v = .ref b ∧ ∀ H, SqT K H b (ns.map V.int) := by
  cases v with
  | ref b =>
    refine ⟨b, rfl, fun H => ?_⟩
    unfold tupIs at h
    cases q : K.lookup b with
    | none => simp only [q] at h; cases h
    | some o =>
      obtain ⟨oc, od, dt, osl⟩ := o
      simp only [q] at h
      cases oc with
      | type c =>
        cases dt with
        | seq its n =>
          obtain ⟨h1, h2⟩ := Bool.and_eq_true_iff.mp (show (decide (c = "tuple") && (decide (its.size ≤ sizeLine) && He.relAll (ns.map V.int) its.toList)) = true from h)
          obtain ⟨h3, h4⟩ := Bool.and_eq_true_iff.mp h2
          exact .inr ⟨_, its, n, q, congrArg Value.type (of_decide_eq_true h1), rfl, of_decide_eq_true h3, He.relAll_ok h4⟩
        | _ => cases h
      | _ => cases dt <;> cases h
  | _ => cases h
theorem entB_ok {P : Program} {w : World} {K : Frag} : ∀ {es : List DictEntry} {kvs : List (Int × List Int)}, entB K es kvs = true →
    (∀ e ∈ es, ∃ k, (intKind P w).is k e.key = true ∧ e.hash = (intKind P w).hash k) ∧
    ∃ (us : List (Int × Value)) (vs : List (Int × V)), Pairs (intKind P w) es us ∧ us.map (·.1) = kvs.map (·.1) ∧ KV vs us ∧ ∀ H, KvA K H vs (kvs.map fun q => (q.1, tI q.2))
  | [], [], _ => ⟨fun _ h => (nomatch h), [], [], .nil, rfl, .nil, fun _ => .nil⟩
  | [], _ :: _, h => by cases h
  | _ :: _, [], h => by cases h
  | e :: es, (k, ns) :: r, h => by
    obtain ⟨h1, h2⟩ := Bool.and_eq_true_iff.mp (show ((match e.key with | .int j _ => decide (j = k) && decide (e.hash = hashInt k) | _ => false) && (tupIs K e.val ns && entB K es r)) = true from h)
    obtain ⟨h3, h4⟩ := Bool.and_eq_true_iff.mp h2
    obtain ⟨ih1, us, vs, ih2, ih3, ih4, ih5⟩ := entB_ok (P := P) (w := w) h4
    obtain ⟨b, hb, hs⟩ := tupIs_ok h3
    have key : (intKind P w).is k e.key = true ∧ e.hash = (intKind P w).hash k := by
      cases q : e.key with
      | int j t =>
        rw [q] at h1
        obtain ⟨h5, h6⟩ := Bool.and_eq_true_iff.mp (show (decide (j = k) && decide (e.hash = hashInt k)) = true from h1)
        have h5 := of_decide_eq_true h5
        subst h5
        exact ⟨by simp [intKind, Value.isInt], of_decide_eq_true h6⟩
      | _ => rw [q] at h1; cases h1
    refine ⟨fun x hx => ?_, (k, .ref b) :: us, (k, .ref b) :: vs, ?_, by rw [List.map_cons, List.map_cons, ih3], .cons ⟨rfl, rfl⟩ ih4, fun H => .cons (.tup (hs H) (RlA.ints ns)) (ih5 H)⟩
    · rcases List.mem_cons.mp hx with rfl | hx
      · exact ⟨k, key⟩
      · exact ih1 x hx
    · rw [← hb]
      exact .cons key.1 rfl ih2
theorem kdB_ok {P : Program} {w : World} {K : Frag} {mg : PySem.Str → Option Value} {x : PySem.Str} {kvs : List (Int × List Int)} (h : kdB K x kvs = true) (hm : mg x = some (.ref (He.ga K x))) (nd : (kvs.map (·.1)).Nodup) : KdAt P w K mg x (kvs.map fun q => (q.1, tI q.2)) := by
  unfold kdB at h
  cases q : K.lookup (He.ga K x) with
  | none => simp only [q] at h; cases h
  | some o =>
    obtain ⟨oc, od, dt, osl⟩ := o
    simp only [q] at h
    cases oc with
    | type c =>
      cases od with
      | none =>
        cases dt with
        | dict es n =>
          obtain ⟨h1, h2⟩ := Bool.and_eq_true_iff.mp (show (decide (c = "dict") && (osl.isEmpty && (!(He.ga K x == sysModules) && entB K es.toList kvs))) = true from h)
          obtain ⟨h3, h4⟩ := Bool.and_eq_true_iff.mp h2
          obtain ⟨h5, h6⟩ := Bool.and_eq_true_iff.mp h4
          obtain ⟨k1, us, vs, k2, k3, k4, k5⟩ := entB_ok (P := P) (w := w) h6
          have e1 : c = "dict" := of_decide_eq_true h1
          subst e1
          refine ⟨_, us, vs, hm, by simpa using h5, fun hp hK => ⟨_, es, n, hK _ _ q, ⟨rfl, rfl, Array.isEmpty_iff.mp h3⟩, rfl, fun e he => k1 e (by simpa using he), k2, by rw [k3]; exact nd⟩, k4, k5⟩
        | _ => cases h
      | some b => cases dt <;> cases h
    | _ => cases od <;> cases dt <;> cases h
end BW
set_option maxHeartbeats 1000000
namespace BW
open PySem L2 DL
open PySem.W (Frag)
theorem Rep.root {c : C} {s : S} {σ : L2.St} {H : Hp} {ow : List Nat} (r : Rep c s σ H) (h : c.X0 = []) : Rep ⟨c.K, c.M, [], fun _ => none, ow⟩ s σ H := by
  refine ⟨fun a o e => ?_, fun a ha => (nomatch ha), fun a ha => (nomatch ha), r.xm, r.xs, r.m, fun i x e => ?_, r.apart, r.len, tbk_none (fun _ _ z => nomatch z) (fun _ _ h => by rcases h with h | ⟨_, h⟩ <;> cases h), r.xt⟩
  · have := (wo_all e).2.1
    cases this
  · have q := r.slot i x e
    cases x with
    | own p ds =>
      obtain ⟨e', h1, h2, h3, vs, h4, h5⟩ := q
      exact ⟨e', h1, fun z => (nomatch z), rfl, vs, h4, h5⟩
    | no => exact q
    | dat d => exact q
    | mst => exact q
    | kds N Z => exact q
    | scr ns => exact q
end BW
set_option maxHeartbeats 1000000
set_option autoImplicit false
namespace DL
open PySem PySem.Spec PyProof.Rows L2
open PySem.W (Frag)
structure Un0 (K : Frag) (mg : PySem.Str → Option Value) (x : PySem.Str) : Prop where
  gC : mg x = some (.ref (He.ga K x))
  base : ∃ B newId initId bmB, XE1.Base B newId initId bmB ∧ PySem.W.excIn K (He.ga K x) bmB newId = true
  kC : PySem.W.keepIn K (.ref (He.ga K x)) = true
  sb : PySem.W.subIn K (.ref (He.ga K x)) (.type "BaseException") = some true
  ty : PySem.W.typeIn K (.ref (He.ga K x)) = some (.type "type")
theorem un0B_ok {K : Frag} {mg : PySem.Str → Option Value} {x : PySem.Str} (h : un0B K x = true) (g : mg x = some (.ref (He.ga K x))) : Un0 K mg x := by
  obtain ⟨h1, h⟩ := Bool.and_eq_true_iff.mp h
  obtain ⟨h2, h⟩ := Bool.and_eq_true_iff.mp h
  obtain ⟨h3, h4⟩ := Bool.and_eq_true_iff.mp h
  exact ⟨g, ⟨_, _, _, _, XE1.baseV, h1⟩, h2, of_decide_eq_true h3, of_decide_eq_true h4⟩
theorem pmk0 {X : Cx} {x : PySem.Str} {p pos : Pos} (U : Un0 X.K X.mg x) (hg : Gl X x := by rfl) (hdb : (x == ("__debug__" : PySem.Str)) = false := by decide) : PMk X (.Call (.Name x p) [] [] pos) (fun _ H Q => Q (.ref (He.ga X.K x)) none H) := by
  intro pins s σ H Q I h
  obtain ⟨B, newId, initId, bmB, TB, hex⟩ := U.base
  refine wpAny_Call_Name_kw (ld_glob I hg U.gC ?_ hdb)
  refine PySem.W.callWith_K0 I.kIn U.kC ?_
  obtain ⟨bm, N, nm, qn, bs, hdct, sn, sub, ab, col, dd, k0, k1, k2, k3, k5, mN, hC, hN, hI, hT⟩ := exc_obj I.kIn hex
  obtain ⟨hp, g, dr, tk, os⟩ := s
  exact wpAny_call_exc_subT TB.F hT hC hN hI (fun h' e M => mk_of I M (raises_own U.sb U.ty) h (I.hok.gone M.new)) (Nat.zero_le _)
abbrev dRaise0 (x : PySem.Str) (Ex : EX) : DS := fun _ s => Ex (.exc x [] []) s
theorem psd_raise0 {X : Cx} {c : C} {x : PySem.Str} {Ex : EX} {p pos pos2 : Pos} (hK : c.K = X.K) (hc : X.calm = true) (tk : Takes X (WL c Ex)) (U : Un0 X.K X.mg x) (hg : Gl X x := by rfl) (hdb : (x == ("__debug__" : PySem.Str)) = false := by decide) :
    PS X (.Raise (some (.Call (.Name x p) [] [] pos)) none pos2) (LS c (dRaise0 x Ex)) :=
  (ps_raise hc tk (pmk0 U hg hdb)).weak fun D σ H ⟨s, DD, rp, q, fe⟩ => ⟨s, _, rp, ⟨x, [], [], [], rfl, by rw [hK], .inl ⟨rfl, rfl⟩, rfl, .nil⟩, q⟩
end DL
set_option autoImplicit false
set_option maxHeartbeats 1000000
namespace BW
open PySem L2 DL
def TpB (T : Mat) (w v : List Int) : Prop := row T w = row T v ∧ (wd T 60 (row T w)).1.length = w.length ∧ (wd T 60 (row T v)).1.length = v.length
theorem sh_iff {T : Mat} (ht : Tab T) {w : List Int} (hw : Wd T.length w) (hl : w.length ≤ 60) : (wd T 60 (row T w)).1.length = w.length ↔ Sh T w := by
  obtain ⟨k, h, hk⟩ := LN.has hw
  have e := len60 ht hw h (by omega)
  rw [e]
  constructor
  · intro z
    show LN T w w.length
    rw [← z]; exact h
  · exact fun z => h.uniq z
theorem Tp.b {T : Mat} (ht : Tab T) {w v : List Int} (hl : w.length ≤ 60) (hm : v.length ≤ 60) (h : Tp T w v) : TpB T w v := ⟨h.al, (sh_iff ht h.hw hl).mpr h.sw, (sh_iff ht h.hv hm).mpr h.sv⟩
end BW
set_option maxHeartbeats 1000000
namespace BW
open PySem L2 DL
theorem lw_row2 {T : Mat} (ht : Tab T) {w : List Int} (hw : Wd T.length w) (hl : w.length ≤ 60) : row T (lw T w) = row T w ∧ Wd T.length (lw T w) ∧ (lw T w).length ≤ w.length ∧ Sh T (lw T w) := by
  have b := (wd_back ht (wd_rev hw) (by rw [List.length_reverse]; exact hl)).2
  rw [List.reverse_reverse] at b
  obtain ⟨n, hn, hn2⟩ := LN.has hw
  have e1 : (lw T w).length = n := (wd_len ht n (f := 60) (wd_rev hw) (LN.rev ht hw hn) (by omega)).1
  have wl : Wd T.length (lw T w) := wd_let 60 (row_length _ _)
  refine ⟨b, wl, by omega, ?_⟩
  show LN T (lw T w) (lw T w).length
  rw [e1]
  exact hn.cong hw wl b.symm
def gw (T : Mat) (w : List Int) : List Int := (un T 61 (row T w)).reverse
theorem Tp.symm {T : Mat} {w v : List Int} (h : Tp T w v) : Tp T v w := ⟨h.hv, h.hw, h.sv, h.sw, h.al.symm⟩
theorem Tp.refl {T : Mat} {w : List Int} (hw : Wd T.length w) (hs : Sh T w) : Tp T w w := ⟨hw, hw, hs, hs, rfl⟩
theorem Tp.turn {T : Mat} (ht : Tab T) {w v u : List Int} {k : Nat} (h : Tp T w v) (hm : mv T v (.turn k) = some u) : Tp T w u := by
  have wu : Wd T.length u := mv_wd (e := .turn k) h.hv trivial hm
  have ru : row T u = row T v := mv_row ht (e := .turn k) h.hv trivial hm
  have lu := Ws.all.mv_turn_len0 hm
  refine ⟨h.hw, wu, h.sw, ?_, h.al.trans ru.symm⟩
  show LN T u u.length
  rw [lu]
  exact h.sv.cong h.hv wu ru.symm
end BW
namespace BW
open PySem
def fw (c : List Int) (r : List Int) : List Int := (fall r).filter fun a => decide (a ∈ c)
def we (T : Mat) (c : List Int) : Nat → List Int → List Int → List Int × List Int
  | 0, r, q => (r, q)
  | n + 1, r, q => match fw c r with
    | [] => (r, q)
    | a :: _ => we T c n (press T r (ix a)) (a :: q)
theorem row_revX {T : Mat} (ht : Tab T) {u v : List Int} (hu : Wd T.length u) (hv : Wd T.length v) (e : row T u = row T v) : row T u.reverse = row T v.reverse := by
  have h := TT.Rw.rev (car_of ht) (lets_of hu) (lets_of hv) ((row_eq_iff hu hv).mp e)
  rw [← List.map_reverse, ← List.map_reverse] at h
  exact (row_eq_iff (wd_rev hu) (wd_rev hv)).mpr h
theorem row_pre {T : Mat} (ht : Tab T) {u v z : List Int} (hz : Wd T.length z) (hu : Wd T.length u) (hv : Wd T.length v) (e : row T u = row T v) : row T (z ++ u) = row T (z ++ v) := by
  have h := row_revX ht (wd_app (wd_rev hu) (wd_rev hz)) (wd_app (wd_rev hv) (wd_rev hz)) (row_app (z := z.reverse) (row_revX ht hu hv e))
  rw [List.reverse_append, List.reverse_append, List.reverse_reverse, List.reverse_reverse, List.reverse_reverse] at h
  exact h
theorem lw_cong {T : Mat} (ht : Tab T) {u v : List Int} (hu : Wd T.length u) (hv : Wd T.length v) (e : row T u = row T v) : lw T u = lw T v := by
  unfold lw
  rw [row_revX ht hu hv e]
def ptf (T : Mat) (c w : List Int) : List Int := lw T (w ++ (we T c 60 (row T w) []).2.reverse)
def ptr (T : Mat) (c w : List Int) : List Int := lw T (we T c 60 (row T w) []).2
def pbf (T : Mat) (c w : List Int) : List Int := lw T (lw T (w.reverse ++ (we T c 60 (row T w.reverse) []).2.reverse)).reverse
def pbr (T : Mat) (c w : List Int) : List Int := lw T (we T c 60 (row T w.reverse) []).2.reverse
end BW
namespace PySem
end PySem
namespace L2
open PySem
open PyProof.Rows (IntsAre)
end L2
namespace DL
open PySem L2
open PySem.W (Frag)
abbrev dSum (t : DE) : DE := fun s Q => t s fun d k => ∃ ns : List Int, d = .lst (ns.map .int) ∧ Q (.int ns.sum) k
section
variable {X : Cx} {c : C} {p pos : Pos}
theorem pd_sum (hK : c.K = X.K) (hm : X.mg "sum" = none) (hc : X.calm = true) {e : Expr} {t : DE} (h : PE X e (LE c t)) (hg : Gl X "sum" := by rfl) (hs : starEach [e] X.env = (false, eval e X.env) :: starEach [] X.env := by rfl) (hp : (backTo pos (starEach [] X.env)).any (·.1) = false := by rfl) :
    PE X (.Call (.Name "sum" p) [e] [] pos) (LE c (dSum t)) :=
  (pe_callB (cr_sum hc) hg hm (by first | exact PySem.boot_sum | exact PyProof.Rows.boot_sum | rfl) (pa_cons h pa_nil hs) (he := hs) (hpl := hp)).weak fun σ H Q ⟨s, R, rp, q, f⟩ => ⟨s, _, rp, q, fun d k ⟨ns, h1, h2⟩ v H1 r1 a1 e1 => by
    subst h1
    obtain ⟨a, vs, rfl, h, r⟩ := e1.lstE
    obtain rfl := r.ints_v
    exact ⟨a, ns, rfl, hK ▸ SqL.of (wo_sub _ _ _ _ h), f _ k h2 _ H1 r1 a1 (.int _)⟩⟩
end
end DL
set_option maxHeartbeats 1000000
set_option maxHeartbeats 1000000
set_option maxHeartbeats 1000000
namespace BW
open PySem L2 DL
def Rn (T : Mat) : List Int → List Deed → List Int → Prop
  | w, [], v => v = w
  | w, e :: r, v => ∃ u, e.fits T.length w.length ∧ mv T w e = some u ∧ (e.isIn = true → w.length + 2 ≤ 30) ∧ Rn T u r v
theorem Rn.snoc {T : Mat} : ∀ {es : List Deed} {w v u : List Int} {e : Deed}, Rn T w es v → e.fits T.length v.length → mv T v e = some u → (e.isIn = true → v.length + 2 ≤ 30) → Rn T w (es ++ [e]) u
  | [], w, v, u, e, h, h1, h2, h3 => by
    have h : v = w := h
    subst h
    exact ⟨u, h1, h2, h3, rfl⟩
  | _ :: r, w, v, u, e, ⟨x, a, b, c, d⟩, h1, h2, h3 => ⟨x, a, b, c, Rn.snoc d h1 h2 h3⟩
theorem Rn.wd {T : Mat} : ∀ {es : List Deed} {w v : List Int}, Rn T w es v → Wd T.length w → Wd T.length v
  | [], w, v, h, hw => by
    have h : v = w := h
    subst h
    exact hw
  | e :: r, w, v, ⟨x, h1, h2, h3, h4⟩, hw => Rn.wd h4 (mv_wd hw h1 h2)
end BW
set_option maxHeartbeats 1000000
namespace BW
open PySem L2 DL
theorem two_cut {w : List Int} {k m : Nat} : w = w.take k ++ (w.drop k).take m ++ w.drop (k + m) := by
  have h : w.drop (k + m) = (w.drop k).drop m := by rw [List.drop_drop]
  rw [h, List.append_assoc, List.take_append_drop, List.take_append_drop]
theorem mv_back {T : Mat} (ht : Tab T) {w v : List Int} {e : Deed} (hw : Wd T.length w) (he : e.fits T.length w.length) (h : mv T w e = some v) : (bk w e).fits T.length v.length ∧ mv T v (bk w e) = some w := by
  cases e with
  | inn k a =>
    have hk : k ≤ w.length := he.1
    have e1 : v = w.take k ++ [a, a] ++ w.drop k := by cases h; rfl
    have l1 : (w.take k).length = k := by rw [List.length_take]; omega
    have e2 : v = w.take k ++ (a :: a :: w.drop k) := by rw [e1, List.append_assoc]; rfl
    have g0 : v.getD k 0 = a := by
      rw [e2, List.getD_eq_getElem?_getD, List.getElem?_append_right (by omega), l1, Nat.sub_self]; rfl
    have g1 : v.getD (k + 1) 0 = a := by
      rw [e2, List.getD_eq_getElem?_getD, List.getElem?_append_right (by omega), l1, show k + 1 - k = 1 by omega]; rfl
    refine ⟨trivial, ?_⟩
    show mv T v (.out k) = some w
    have lv : v.length = w.length + 2 := by rw [e2, List.length_append, l1, List.length_cons, List.length_cons, List.length_drop]; omega
    rw [mv_out, g0, g1, if_pos ⟨by omega, rfl⟩]
    have t1 : v.take k = w.take k := by rw [e2, List.take_left' l1]
    have d1 : v.drop (k + 2) = w.drop k := by
      have e3 : v = (w.take k ++ [a, a]) ++ w.drop k := e1
      rw [e3, List.drop_left' (by rw [List.length_append, l1]; rfl)]
    rw [t1, d1, List.take_append_drop]
  | out k =>
    rw [mv_out] at h
    split at h
    case isFalse => cases h
    rename_i c
    cases h
    obtain ⟨c1, c2⟩ := c
    have l1 : (w.take k).length = k := by rw [List.length_take]; omega
    have ga : w[k]? = some (w.getD k 0) := by rw [List.getD_eq_getElem?_getD, List.getElem?_eq_getElem (by omega)]; rfl
    have gb : w[k + 1]? = some (w.getD k 0) := by rw [c2, List.getD_eq_getElem?_getD, List.getElem?_eq_getElem c1]; rfl
    have wa := hw (w.getD k 0) (List.mem_of_getElem? ga)
    refine ⟨⟨by rw [List.length_append, l1]; omega, wa.1, wa.2⟩, ?_⟩
    show some (((w.take k ++ w.drop (k + 2)).take k ++ [w.getD k 0, w.getD k 0]) ++ (w.take k ++ w.drop (k + 2)).drop k) = some w
    rw [List.take_left' l1, List.drop_left' l1]
    congr 1
    have e3 : w.drop k = w.getD k 0 :: w.getD k 0 :: w.drop (k + 2) := by
      have q1 := drop_at ga
      have q2 := drop_at gb
      rw [q1, q2]
    have e4 := List.take_append_drop k w
    rw [e3] at e4
    rw [List.append_assoc]
    exact e4
  | turn k =>
    refine ⟨trivial, ?_⟩
    show mv T v (.turn k) = some w
    rw [mv_turn] at h
    split at h
    case isFalse => cases h
    rename_i c
    split at h
    case isFalse => cases h
    rename_i c2
    cases h
    have ga : w[k]? = some (w.getD k 0) := by rw [List.getD_eq_getElem?_getD, List.getElem?_eq_getElem (by omega)]; rfl
    have gb : w[k + 1]? = some (w.getD (k + 1) 0) := by rw [List.getD_eq_getElem?_getD, List.getElem?_eq_getElem c.1]; rfl
    have wa := hw _ (List.mem_of_getElem? ga)
    have wb := hw _ (List.mem_of_getElem? gb)
    obtain ⟨i, ei⟩ : ∃ i : Nat, w.getD k 0 = (i : Int) + 1 := ⟨(w.getD k 0 - 1).toNat, by omega⟩
    obtain ⟨j, ej⟩ : ∃ j : Nat, w.getD (k + 1) 0 = (j : Int) + 1 := ⟨(w.getD (k + 1) 0 - 1).toNat, by omega⟩
    rw [ei, ej] at c c2 ⊢
    rw [ei] at wa
    rw [ej] at wb
    have hi : i < T.length := by omega
    have hj : j < T.length := by omega
    have nij : i ≠ j := fun z => c.2 (by rw [z])
    rw [ix_succ, ix_succ] at c2 ⊢
    have l1 : (w.take k).length = k := by rw [List.length_take]; omega
    have q := turn_at ht (h := w.take k) hj hi (fun z => nij z.symm) (by rw [← ht.sy i j hi hj]; have := c2.1; omega)
    rw [← ht.sy i j hi hj, l1] at q
    have q := mv_suf (z := w.drop (k + (at2 T i j).toNat)) q
    rw [q, ← c2.2]
    exact congrArg some two_cut.symm
def bks (T : Mat) : List Int → List Deed → List Deed
  | _, [] => []
  | w, e :: r => bk w e :: bks T ((mv T w e).getD w) r
def Ld (T : Mat) : List Int → List Deed → List Int → Prop
  | w, [], v => v = w
  | w, e :: r, v => ∃ u, e.fits T.length w.length ∧ mv T w e = some u ∧ u.length ≤ 60 ∧ Ld T u r v
theorem Ld.app {T : Mat} : ∀ {es fs : List Deed} {w u v : List Int}, Ld T w es u → Ld T u fs v → Ld T w (es ++ fs) v
  | [], fs, w, u, v, h, g => by
    have h : u = w := h
    subst h
    exact g
  | e :: r, fs, w, u, v, ⟨x, a, b, c, d⟩, g => ⟨x, a, b, c, Ld.app d g⟩
theorem Rn.back {T : Mat} (ht : Tab T) : ∀ {es : List Deed} {w v : List Int}, Wd T.length w → w.length ≤ 60 → Rn T w es v → Ld T v (bks T w es).reverse w
  | [], w, v, hw, hl, h => by
    have h : v = w := h
    subst h
    rfl
  | e :: r, w, v, hw, hl, ⟨x, h1, h2, h3, h4⟩ => by
    have lx := mv_len h2
    have lx2 : x.length ≤ 60 := by
      by_cases c : e.isIn = true
      · rw [if_pos c] at lx
        have := h3 c
        omega
      · rw [if_neg c] at lx
        omega
    have q := Rn.back ht (mv_wd hw h1 h2) lx2 h4
    have b := mv_back ht hw h1 h2
    show Ld T v (bk w e :: bks T ((mv T w e).getD w) r).reverse w
    rw [h2]
    show Ld T v (bk w e :: bks T x r).reverse w
    rw [List.reverse_cons]
    exact q.app ⟨w, b.1, b.2, hl, rfl⟩
end BW
set_option maxHeartbeats 1000000
set_option autoImplicit false
namespace BW
open PySem L2 DL
theorem Ld.wd {T : Mat} : ∀ {es : List Deed} {w v : List Int}, Ld T w es v → Wd T.length w → w.length ≤ 60 → Wd T.length v ∧ v.length ≤ 60
  | [], w, v, h, hw, hl => by
    have h : v = w := h
    subst h
    exact ⟨hw, hl⟩
  | e :: r, w, v, ⟨x, h1, h2, h3, h4⟩, hw, hl => Ld.wd h4 (mv_wd hw h1 h2) h3
end BW
set_option maxHeartbeats 1000000
namespace DL
open PySem PySem.Spec PyProof.Rows L2
end DL
set_option maxHeartbeats 1000000
set_option autoImplicit false
namespace BW
open PySem L2 DL
theorem isW.items {d : D} {w : List Int} (h : isW d w) : d.items = some (w.map D.int) := by rcases h with rfl | rfl <;> rfl
end BW
set_option maxHeartbeats 1000000
set_option maxHeartbeats 1000000
set_option maxHeartbeats 1000000
set_option autoImplicit false
set_option maxHeartbeats 1000000
namespace DL
open PySem PySem.Spec PyProof.Rows L2 LamX
open PySem.W (Frag)
def nt (H : Hp) : Hp := fun a => match H a with
  | some (.tbl _) => none
  | o => o
theorem nt_some {H : Hp} {a : Addr} {o : HO} (h : nt H a = some o) : H a = some o ∧ NoTb o := by
  unfold nt at h
  split at h
  · cases h
  · rename_i n
    exact ⟨h, fun ps e => n ps (by rw [h, e])⟩
theorem nt_of {H : Hp} {a : Addr} {o : HO} (h : H a = some o) (n : NoTb o) : nt H a = some o := by
  unfold nt
  rw [h]
  cases o <;> first | rfl | exact absurd rfl (n _)
theorem nt_no (H : Hp) : NoTs (nt H) := fun a ps h => (nt_some h).2 ps rfl
theorem nt_rd {H : Hp} {a : Addr} {vs : List V} (h : Rd (nt H) a (.tup vs)) : Rd H a (.tup vs) := by
  rcases h with h | ⟨o, h⟩
  · exact .inl (nt_some h).1
  · exact .inr ⟨o, (nt_some h).1⟩
theorem rd_nt {H : Hp} {a : Addr} {vs : List V} (h : Rd H a (.tup vs)) : Rd (nt H) a (.tup vs) := by
  rcases h with h | ⟨o, h⟩
  · exact .inl (nt_of h fun _ z => by cases z)
  · exact .inr ⟨o, nt_of h fun _ z => by cases z⟩
structure AftT (K : Frag) (M : Option Mc) (X0 : List Addr) (H H' : Hp) (k : Nat) : Prop where
  sub : Sub (wo H (Ml M ++ X0)) (wo H' (Ml M ++ X0))
  old : ∀ a ∈ X0, H' a = H a
  m : MAt M H' k
  tup : ∀ a vs, Rd H a (.tup vs) → Rd H' a (.tup vs)
def spDT (K : Frag) (T : List (Addr × PySem.Str)) (hm : Bool) (sp : DSp) : Sp := fun vs H Q _ => ∃ (m : Mc) (X0 : List Addr) (k : Nat) (ds : List D) (ws : List V) (R : D → Nat → Prop),
  (m.T = T ∧ m.kd = none) ∧ (match hm with | true => vs = .ref m.pm :: ws | false => vs = ws) ∧ Ahd K (some m) X0 H k ws ds ∧ sp ds k R ∧
  ∀ d k', R d k' → ∀ v H', AftT K (some m) X0 H H' k' → Rl K (wo H' (Ml (some m) ++ X0)) v d → Q v H'
structure CalT (P : Program) (w : World) (K : Frag) (mg : PySem.Str → Option Value) (base : Heap) (k : Nat) (x : PySem.Str) (T : List (Addr × PySem.Str)) (hm : Bool) (sp : DSp) : Prop where
  ex : ∃ f fd ps, L2G.FnG P w K mg base k f fd ps (spDT K T hm sp) ∧ mg x = some (.ref f) ∧ PySem.W.keepIn K (.ref f) = true ∧ Binds K fd ps []
abbrev dCallT (sp : DSp) (t : DA) : DE := fun s Q => t s fun ds k => sp ds k Q
theorem Rep.afterT {c : C} {s : S} {σ : L2.St} {H H' : Hp} {k : Nat} (r : Rep c s σ H) (h0 : NoTs c.H0) (a : AftT c.K c.M s.X H H' k) : Rep c (s.at k) σ H' ∧ AdvE c s.X H H' :=
  ⟨r.step a.sub (fun b hb _ => a.old b hb) a.m (tbk_none h0 fun b vs h => a.tup b vs (r.tb.tup b vs h)), a.sub, a.old⟩
theorem init_repT {K : Frag} {m : Mc} {X0 : List Addr} {ow : List Nat} {hm : Bool} {N : List PySem.Str} {vs ws : List V} {ds : List D} {H : Hp} {k : Nat} (hk : m.kd = none) (h : match hm with | true => vs = .ref m.pm :: ws | false => vs = ws)
    (a : Ahd K (some m) X0 H k ws ds) (hl : vs.length ≤ N.length) : Rep ⟨K, some m, X0, nt H, ow⟩ ⟨X0, init hm N.length ds, k⟩ (L2.start N vs) H := by
  have len := a.args.len
  have dat : ∀ (i : Nat) (o : Nat) (x : Sl), (∀ (j : Nat) (w : V), ws[j]? = some w → vs[j + o]? = some w) → (ds.map Sl.dat ++ List.replicate (N.length - (ds.length + o)) Sl.no)[i]? = some x → SlOk ⟨K, some m, X0, nt H, ow⟩ X0 H (L2.start N vs)[i + o]? x := fun i o x hw e => by
    by_cases hi : i < ds.length
    · rw [List.getElem?_append_left (by rw [List.length_map]; exact hi), List.getElem?_map] at e
      obtain ⟨d, hd⟩ : ∃ d, ds[i]? = some d := ⟨ds[i], by simp [hi]⟩
      rw [hd] at e
      cases e
      obtain ⟨w, h1, h2⟩ := a.args.getD hd
      exact ⟨w, start_get (hw i w h1), h2⟩
    · rw [List.getElem?_append_right (by rw [List.length_map]; omega), List.getElem?_replicate] at e
      split at e
      · cases e; trivial
      · cases e
  refine ⟨fun b o e => ?_, fun b _ _ hn => ?_, fun _ h => h, a.xm, a.xs, a.m, fun i x e => ?_, fun i j p q as bs e1 _ _ => ?_, ?_, tbk_none (nt_no H) (fun b vs h => nt_rd h), a.xt⟩
  · obtain ⟨n1, e, n2⟩ := wo_all e
    exact wo_of n1 (nt_some e).1 n2
  · show H b = nt H b
    cases e : nt H b with
    | none => exact absurd e hn
    | some o => exact (nt_some e).1
  · cases hm with
    | false =>
      have h : vs = ws := h
      subst h
      exact dat i 0 x (fun j w h => h) (by simpa [init] using e)
    | true =>
      have h : vs = .ref m.pm :: ws := h
      subst h
      cases i with
      | zero =>
        have e' : Sl.mst = x := Option.some.inj e
        subst e'
        exact ⟨m, ⟨rfl, hk⟩, start_get rfl⟩
      | succ i => exact dat i 1 x (fun j w h => h) (by simpa [init] using e)
  · have e1 : (init hm N.length ds)[i]? = some (.own p as) := e1
    unfold init at e1
    have mem := List.mem_of_getElem? e1
    cases hm <;> simp at mem
  · show (init hm N.length ds).length = (L2.start N vs).length
    unfold init L2.start
    cases hm with
    | false =>
      have h : vs = ws := h
      subst h
      simp
      omega
    | true =>
      have h : vs = .ref m.pm :: ws := h
      subst h
      simp at hl
      simp
      omega
section
variable {P : Program} {w : World} {K : Frag} {mg : PySem.Str → Option Value} {base : Heap}
def TTof (K : Frag) (l : List ((PySem.Str × Option PySem.Str) × PySem.Str)) : List (Addr × PySem.Str) := l.map fun x => ((He.cT K x.1).2, x.2)
theorem inT_of {K : Frag} : ∀ {l : List ((PySem.Str × Option PySem.Str) × PySem.Str)}, (l.map fun x => (He.cT K x.1).2).Nodup → ∀ {x}, x ∈ l → InT (TTof K l) (He.cT K x.1).2 x.2 := fun {l} nd {x} hx => by
  refine ⟨List.mem_map.mpr ⟨x, hx, rfl⟩, fun p hp e => ?_⟩
  obtain ⟨y, hy, rfl⟩ := List.mem_map.mp hp
  have e : (He.cT K y.1).2 = (He.cT K x.1).2 := e
  have : y = x := by
    clear hp
    induction l with
    | nil => cases hx
    | cons z r ih =>
      obtain ⟨n1, n2⟩ := List.nodup_cons.mp nd
      rcases List.mem_cons.mp hx with a | a <;> rcases List.mem_cons.mp hy with b | b
      · rw [a, b]
      · exact absurd (List.mem_map.mpr ⟨y, b, by rw [← a]; exact e⟩) n1
      · exact absurd (List.mem_map.mpr ⟨x, a, by rw [← b]; exact e.symm⟩) n1
      · exact ih n2 a b
  rw [this]
end
end DL
namespace DL
open PySem L2 L2G
open PySem.W (Frag)
def SysK (K : Frag) : Prop := ∃ o, K.lookup sysModules = some o
theorem sysB_ok {K : Frag} (h : sysB K = true) : SysK K := Option.isSome_iff_exists.mp h
mutual
def D.plo : D → Bool
  | .lst xs => ploA xs
  | .tup xs => ploA xs
  | .dic => true
  | .ins _ _ _ => false
  | .exc _ _ _ => false
  | .dct _ _ => false
  | .non => true
  | .bl _ => true
  | .int _ => true
  | .str _ => true
def ploA : List D → Bool
  | [] => true
  | d :: r => D.plo d && ploA r
end
section
variable {X : Cx} {pins : List (Addr × Obj)} {σ : St} {H : Hp} {s : Shared}
theorem sys_free (I : Inv X pins σ H s) (hy : SysK X.K) : H sysModules = none :=
  let ⟨_, e⟩ := hy
  (I.bs _ _ (I.mod.kin _ _ e)).2
theorem not_sys (I : Inv X pins σ H s) (hy : SysK X.K) {a : Addr} {o : HO} (h : H a = some o) : ¬ sysModules = a := fun e => by
  have := sys_free I hy
  rw [e, h] at this
  cases this
mutual
theorem rl_reads (I : Inv X pins σ H s) (hy : SysK X.K) : ∀ (d : D) {v : V} {u : Value}, Rl X.K H v d → RelV v u → d.plo = true → ∃ as, Reads s.heap u d.py as ∧ sysModules ∉ as
  | .non, _, _, h, r, _ => by
    cases h
    cases r
    exact ⟨_, Reads.none, by simp⟩
  | .bl b, _, _, h, r, _ => by
    cases h
    cases r
    exact ⟨_, Reads.bool b, by simp⟩
  | .int i, _, _, h, r, _ => by
    cases h
    obtain ⟨t, rfl⟩ := r
    exact ⟨_, Reads.int i t, by simp⟩
  | .str x, _, _, h, r, _ => by
    cases h
    obtain ⟨t, rfl⟩ := r
    exact ⟨_, Reads.str x t, by simp⟩
  | .lst ds, _, _, h, r, p => by
    cases h with
    | lst hs ha =>
      cases r
      obtain ⟨its, rv, ⟨o, n, ho, hc, _, hd⟩, _⟩ := I.list (SqL.of hs)
      obtain ⟨as, hr, hn⟩ := rlA_reads I hy ds ha rv p
      exact ⟨_, Reads.list ho hc hd hr, fun z => (List.mem_cons.mp z).elim (not_sys I hy hs) hn⟩
  | .tup ds, _, _, h, r, p => by
    cases h with
    | tup hs ha =>
      cases r
      obtain ⟨its, rv, ⟨o, ho, hc, n, hd⟩, _⟩ := I.tuple hs
      obtain ⟨as, hr, hn⟩ := rlA_reads I hy ds ha rv p
      exact ⟨_, Reads.tuple ho hc hd hr, hn⟩
  | .dic, _, _, h, r, _ => by
    cases h with
    | dic hs =>
      cases r
      obtain ⟨_, _, vs, rel, o, es, ep, ho, hx, hd, _, pr, _⟩ := I.hok _ _ hs
      cases rel
      have e : es.toList = [] := List.length_eq_zero_iff.mp pr.length
      refine ⟨_, Reads.dict (as := []) (bs := []) ho hx.1 hd (by rw [e]; exact ReadsAll.nil) (by rw [e]; exact ReadsAll.nil), fun z => ?_⟩
      exact (List.mem_cons.mp z).elim (not_sys I hy hs) (by simp)
  | .ins _ _ _, _, _, _, _, p => by cases p
  | .exc _ _ _, _, _, _, _, p => by cases p
  | .dct _ _, _, _, _, _, p => by cases p
theorem rlA_reads (I : Inv X pins σ H s) (hy : SysK X.K) : ∀ (ds : List D) {vs : List V} {us : List Value}, RlA X.K H vs ds → Vals vs us → ploA ds = true → ∃ as, ReadsAll s.heap us (pyA ds) as ∧ sysModules ∉ as
  | [], _, _, h, r, _ => by
    cases h
    cases r
    exact ⟨_, ReadsAll.nil, by simp⟩
  | d :: ds, _, _, h, r, p => by
    obtain ⟨p1, p2⟩ := Bool.and_eq_true_iff.mp (show (D.plo d && ploA ds) = true from p)
    cases h with
    | cons h1 h2 =>
      cases r with
      | cons r1 r2 =>
        obtain ⟨as, q1, n1⟩ := rl_reads I hy d h1 r1 p1
        obtain ⟨bs, q2, n2⟩ := rlA_reads I hy ds h2 r2 p2
        exact ⟨_, ReadsAll.cons q1 q2, fun z => (List.mem_append.mp z).elim n1 n2⟩
end
end
mutual
theorem showno_up : ∀ d : D, d.plo = true → d.shw = true → d.py.shown.length ≤ d.wg ∧ d.py.showable = true
  | .non, _, _ => ⟨by decide, rfl⟩
  | .bl b, _, _ => ⟨by cases b <;> decide, rfl⟩
  | .int i, _, h => ⟨PyProof.Rows.int_text_len_1921 (of_decide_eq_true h), h⟩
  | .str x, _, _ => ⟨Nat.le_refl _, rfl⟩
  | .lst xs, p, h => by
    obtain ⟨h1, h2⟩ := shownoA_up xs p h
    refine ⟨?_, h2⟩
    show (listText (PyData.shownAll (pyA xs))).length ≤ wgA xs + 2
    have := listText_up (PyData.shownAll (pyA xs))
    omega
  | .tup xs, p, h => by
    obtain ⟨h1, h2⟩ := shownoA_up xs p h
    refine ⟨?_, h2⟩
    show (tupleText (PyData.shownAll (pyA xs))).length ≤ wgA xs + 4
    have := tupleText_up (PyData.shownAll (pyA xs))
    omega
  | .dic, _, _ => ⟨by decide, rfl⟩
  | .ins _ _ _, p, _ => by cases p
  | .exc _ _ _, p, _ => by cases p
  | .dct _ _, p, _ => by cases p
theorem shownoA_up : ∀ ds : List D, ploA ds = true → shwA ds = true → piled (PyData.shownAll (pyA ds)) ≤ wgA ds ∧ PyData.showableAll (pyA ds) = true
  | [], _, _ => ⟨Nat.le_refl _, rfl⟩
  | d :: r, p, h => by
    obtain ⟨p1, p2⟩ := Bool.and_eq_true_iff.mp (show (D.plo d && ploA r) = true from p)
    obtain ⟨h1, h2⟩ := Bool.and_eq_true_iff.mp (show (D.shw d && shwA r) = true from h)
    obtain ⟨a1, a2⟩ := showno_up d p1 h1
    obtain ⟨b1, b2⟩ := shownoA_up r p2 h2
    refine ⟨?_, ?_⟩
    · show piled (d.py.shown :: PyData.shownAll (pyA r)) ≤ D.wg d + 2 + wgA r
      rw [piled_cons]
      omega
    · show (d.py.showable && PyData.showableAll (pyA r)) = true
      rw [a2, b2]; rfl
end
structure ShwO (d : D) : Prop where
  plo : d.plo = true
  shw : d.shw = true
  dep : d.py.depth ≤ 60
  wg : d.wg ≤ sizeLine
end DL
set_option maxHeartbeats 1000000
set_option maxHeartbeats 1000000
set_option maxHeartbeats 1000000
set_option maxHeartbeats 1000000
set_option maxHeartbeats 1000000
namespace DL
open PySem PySem.Spec PyProof.Rows L2
open PySem.W (Frag)
abbrev typN : List String := ["NoneType", "bool", "int", "str", "list", "tuple", "dict"]
abbrev typR : List String := ["NoneType", "int", "str", "list", "tuple", "dict"]
structure OwnK (K : Frag) (C f : Addr) : Prop where
  cl : Cls K C
  ca : PySem.W.findIn K (.ref C) "__class__" = some (some (.builtin "object.__class__"))
  cg : PySem.W.specialIn K (.builtin "object.__class__") "__get__" = some (some (.builtin "getset_descriptor.__get__"))
  tk : PySem.W.takesIn K (.builtin "object.__class__") = some true
  ob : PySem.W.mroIn K C (.type "object") = some true
  eq : PySem.W.findIn K (.ref C) "__eq__" = some (some (.ref f))
  fn : PySem.W.isFn K (.ref f) = true
  ne : PySem.W.findIn K (.ref C) "__ne__" = some (some (.builtin "object.__ne__"))
  kt : PySem.W.kitOne K (.ref C) (.ref C) = some true
  kf : ∀ T ∈ typN, PySem.W.kitOne K (.type T) (.ref C) = some false
  sf : ∀ T ∈ typR, PySem.W.subIn K (.ref C) (.type T) = some false
  nf : ∀ T ∈ typN, PySem.W.notFirst K C (.type T) = true
end DL
set_option maxHeartbeats 1000000
namespace DL
open PySem PySem.Spec PyProof.Rows L2
open PySem.W (Frag)
section
variable {K : Frag} {c : C} {C f : Addr} {sp : DSp}
theorem OwnK.ty (O : OwnK K C f) {H : Hp} {v : V} {d : D} (r : Rl K H v d) (h : (∃ n ∈ typN, d.tname = some n) ∨ ∃ ns xs, d = .ins C ns xs) : ∃ t, TyX K H v t ∧ PySem.W.notFirst K C t = true := by
  rcases h with ⟨n, hn, e⟩ | ⟨ns, xs, rfl⟩
  · exact ⟨_, r.ty e, O.nf n hn⟩
  · obtain ⟨a, dx, us, rfl, h2, l, r⟩ := r.insE
    exact ⟨_, .base (.ins h2 O.cl O.ca O.cg O.tk O.ob), by simp [PySem.W.notFirst]⟩
end
end DL
set_option maxHeartbeats 1000000
set_option maxHeartbeats 1000000
namespace DL
open PySem PySem.Spec PyProof.Rows L2
open PySem.W (Frag)
structure Bld (K : Frag) (X0 : List Addr) (x C dx : Addr) (H0 H : Hp) (ws : List V) (as : List D) (ns : List PySem.Str) (vs : List V) (ds : List D) : Prop where
  at_ : H x = some (.ins C dx (ns.zip vs))
  len : ns.length = vs.length
  ra : RlA K (wo H (x :: X0)) ws as
  rf : RlA K (wo H (x :: X0)) vs ds
  old : ∀ a ∈ X0, H a = H0 a
  sub : Sub (wo H0 (x :: X0)) (wo H (x :: X0))
  tb : TbK H0 H
theorem wo_updh {H : Hp} {x : Addr} {X0 : List Addr} {o : HO} : wo (upd H x o) (x :: X0) = wo H (x :: X0) := by
  funext a
  unfold wo
  by_cases h : a = x
  · subst h
    rw [if_pos List.mem_cons_self, if_pos List.mem_cons_self]
  · rw [upd_ne h]
section
variable {K : Frag} {X0 : List Addr} {x C dx : Addr} {H0 H : Hp} {ws : List V} {as : List D} {ns : List PySem.Str} {vs : List V} {ds : List D}
theorem Bld.step (B : Bld K X0 x C dx H0 H ws as ns vs ds) (hx : x ∉ X0) {H' : Hp} {v : V} {d : D} (own : ∀ a ∈ x :: X0, H' a = H a) (sub : Sub (wo H (x :: X0)) (wo H' (x :: X0))) (tb : TbK H H') (r : Rl K (wo H' (x :: X0)) v d) (f : PySem.Str) :
    H' x = some (.ins C dx (ns.zip vs)) ∧ Bld K X0 x C dx H0 (upd H' x (.ins C dx ((ns ++ [f]).zip (vs ++ [v])))) ws as (ns ++ [f]) (vs ++ [v]) (ds ++ [d]) := by
  have e : H' x = some (.ins C dx (ns.zip vs)) := by rw [own x List.mem_cons_self]; exact B.at_
  refine ⟨e, upd_same, by rw [List.length_append, List.length_append, B.len]; rfl, ?_, ?_, fun a h => ?_, ?_, ?_⟩
  · rw [wo_updh]; exact B.ra.mono sub
  · rw [wo_updh]; exact (B.rf.mono sub).app (.cons r .nil)
  · rw [upd_ne (fun z => hx (by rw [← z]; exact h)), own a (List.mem_cons_of_mem _ h)]; exact B.old a h
  · rw [wo_updh]; exact B.sub.trans sub
  · exact B.tb.trans (tb.trans (TbK.at_ e))
end
end DL
set_option maxHeartbeats 1000000
set_option maxHeartbeats 1000000
namespace BW
open PySem L2 DL
inductive Val : Nat → D → Prop
  | non {n : Nat} : Val n .non
  | bl {n : Nat} (b : Bool) : Val n (.bl b)
  | int {n : Nat} (i : Int) : Val n (.int i)
  | str {n : Nat} {x : PySem.Str} : PyData.strOk x = true → Val n (.str x)
  | tup {n : Nat} {xs : List D} : xs.length ≤ 300000 → (n ≤ 1 → xs.length ≤ 900) → (∀ x ∈ xs, Val n x) → Val (n + 1) (.tup xs)
  | lst {n : Nat} {xs : List D} : xs.length ≤ 300000 → (n ≤ 1 → xs.length ≤ 900) → (∀ x ∈ xs, Val n x) → Val (n + 1) (.lst xs)
theorem Val.up {n : Nat} {d : D} (h : Val n d) : ∀ {m : Nat}, n ≤ m → Val m d := by
  induction h with
  | non => exact fun _ => .non
  | bl b => exact fun _ => .bl b
  | int i => exact fun _ => .int i
  | str h => exact fun _ => .str h
  | @tup n xs h1 h2 h3 ih =>
    intro m hm
    obtain ⟨m, rfl⟩ : ∃ k, m = k + 1 := ⟨m - 1, by omega⟩
    exact .tup h1 (fun z => h2 (by omega)) fun x hx => ih x hx (by omega)
  | @lst n xs h1 h2 h3 ih =>
    intro m hm
    obtain ⟨m, rfl⟩ : ∃ k, m = k + 1 := ⟨m - 1, by omega⟩
    exact .lst h1 (fun z => h2 (by omega)) fun x hx => ih x hx (by omega)
theorem Val.ty {n : Nat} {d : D} (h : Val n d) : d.tname.isSome = true := by cases h <;> rfl
theorem lays17 {n : Nat} : ∀ {xs : List D}, (∀ x ∈ xs, x.plain = true ∧ PyData.canLay0 x.py = true ∧ PyData.depth x.py ≤ n) → plainA xs = true ∧ PyData.canLayAll0 (pyA xs) = true ∧ PyData.depthAll (pyA xs) ≤ n
  | [], _ => ⟨rfl, rfl, Nat.zero_le _⟩
  | x :: r, h => by
    obtain ⟨a, b, c⟩ := lays17 (xs := r) fun z hz => h z (List.mem_cons_of_mem _ hz)
    obtain ⟨a', b', c'⟩ := h x List.mem_cons_self
    refine ⟨?_, ?_, ?_⟩
    · show (x.plain && plainA r) = true
      rw [a', a]; rfl
    · show (PyData.canLay0 x.py && PyData.canLayAll0 (pyA r)) = true
      rw [b', b]; rfl
    · show max (PyData.depth x.py) (PyData.depthAll (pyA r)) ≤ n
      omega
theorem Val.lay {n : Nat} {d : D} (h : Val n d) : d.plain = true ∧ PyData.canLay0 d.py = true ∧ PyData.depth d.py ≤ n := by
  induction h with
  | non => exact ⟨rfl, rfl, Nat.zero_le _⟩
  | bl b => exact ⟨rfl, rfl, Nat.zero_le _⟩
  | int i => exact ⟨rfl, rfl, Nat.zero_le _⟩
  | str h => exact ⟨rfl, h, Nat.zero_le _⟩
  | @tup n xs h1 h2 h3 ih =>
    obtain ⟨a, b, c⟩ := lays17 ih
    exact ⟨a, b, by show PyData.depthAll (pyA xs) + 1 ≤ n + 1; omega⟩
  | @lst n xs h1 h2 h3 ih =>
    obtain ⟨a, b, c⟩ := lays17 ih
    exact ⟨a, b, by show PyData.depthAll (pyA xs) + 1 ≤ n + 1; omega⟩
theorem Val.okE {n : Nat} {d : D} (h : Val n d) (hn : n ≤ 40) : d.okE = true := by
  obtain ⟨a, b, c⟩ := h.lay
  show (d.plain && (PyData.canLay0 d.py && decide (PyData.depth d.py ≤ 64))) = true
  rw [a, b, decide_eq_true (by omega)]; rfl
end BW
set_option maxHeartbeats 1000000
namespace BW
open PySem L2 DL
theorem at0 (y : D) (r : List D) : atI (y :: r) 0 = some y := atI_nat (j := 0) rfl
section
variable {T : Mat} {w v : List Int} {X : List Addr} {k : Nat} {DD : DEnds} {x4 x5 : Sl} {d : D}
theorem at1 (a b : D) (r : List D) : atI (a :: b :: r) 1 = some b := atI_nat (j := 1) rfl
end
end BW
set_option maxHeartbeats 1000000
namespace BW
open PySem L2 DL
theorem l10k {n : Nat} (h : n ≤ 10000) : n ≤ lim := Nat.le_trans h (by decide)
end BW
set_option maxHeartbeats 1000000
set_option autoImplicit false
namespace LamD
open PySem PySem.Spec PyProof.Rows L2 LamX
end LamD
set_option maxHeartbeats 1000000
set_option autoImplicit false
namespace LamD
open PySem PySem.Spec PyProof.Rows L2 LamX
end LamD
set_option maxHeartbeats 1000000
set_option autoImplicit false
namespace LamD
open PySem PySem.Spec PyProof.Rows L2 LamX
end LamD
set_option maxHeartbeats 1000000
set_option autoImplicit false
namespace LamD
open PySem PySem.Spec PyProof.Rows L2 LamX
end LamD
set_option maxHeartbeats 1000000
set_option autoImplicit false
namespace LamD
open PySem PySem.Spec PyProof.Rows L2 LamX
end LamD
set_option maxHeartbeats 1000000
namespace LamD
open PySem
end LamD
namespace DL
open PySem PySem.Spec PyProof.Rows L2 LamX LamD
end DL
set_option maxHeartbeats 1000000
namespace DL
open PySem PySem.Spec PyProof.Rows L2 LamX
abbrev HN : List PySem.Str := ["call", "told", "error", "e", "kinds", "words", "found", "word", "is_so"]
abbrev heardScope : Scope := { kind := .function, names := [("call", .local), ("told", .local), ("error", .local), ("e", .local), ("kinds", .local), ("words", .local), ("found", .local), ("BondError", .globalImplicit), ("TooGreat", .globalImplicit), ("isinstance", .globalImplicit), ("ValueError", .globalImplicit),   ("BadBonds", .globalImplicit), ("BadWord", .globalImplicit), ("BadDeed", .globalImplicit), ("BadText", .globalImplicit), ("BadRow", .globalImplicit), ("BadNumber", .globalImplicit), ("BadChoice", .globalImplicit), ("Unlike", .globalImplicit), ("Endless", .globalImplicit), ("NothingLeft", .globalImplicit), ("zip", .globalImplicit), ("len", .globalImplicit)],   isGenerator := false, isCoroutine := false, more := [("fast", .str "call"), ("fast", .str "told"), ("fast", .str "error"), ("fast", .str "e"), ("fast", .str "kinds"), ("fast", .str "words"), ("fast", .str "word"), ("fast", .str "is_so"), ("fast", .str "found")] }
abbrev heardBody (a1 a2 a3 a4 a5 a6 a7 b1 b2 b3 b4 b5 b6 b7 b8 b9 b10 b11 b12 b13 c1 c2 c3 c4 c5 c6 : Pos) (rest : List Stmt) : List Stmt :=
  .Assign [.Tuple [.Name "told" a1, .Name "error" a2] 0 a3] (.Tuple [.List [] a4, .Constant .none 0 a5] 0 a6) a7 ::
  .Try [.Assign [.Name "told" b1] (.List [.Call (.Name "call" b2) [] [] b3] b13) b4] [.ExceptHandler (some (.Tuple [.Name "BondError" b5, .Name "TooGreat" b6] 0 b7)) (some "e") [.Assign [.Name "error" b8] (.Name "e" b9) b10] b11] [] [] b12 ::
  .If (.Compare (.Name "error" c1) [.Is] [.Constant .none 0 c2] c3) [.Return (some (.Name "told" c4)) c5] [] c6 :: rest
def TTh (K : PySem.W.Frag) (C1 C2 : Addr) (tR : DS) : (XK → Hp → VK → Prop) → Hp → VK → Prop := fun tl H Q =>
  ∀ l, H l = none → tl (fun cls d H2 => PySem.W.exmAny K cls [.ref C1, .ref C2] = some true ∧ ∀ a, H2 a = none → ∃ c : C, c.K = K ∧ c.ow = [4] ∧ ∀ σ : L2.St, σ.length = 9 → σ[2]? = some (some (.ref a)) →
      LS c tR { nx := fun _ H' => Q .non H', rt := Q } σ (upd H2 a (xob a cls d)))
    (upd H l (.lst [])) fun v H2 => ∀ y, H2 y = none → Q (.ref y) (upd H2 y (.lst [v]))
def exHS (K : PySem.W.Frag) (t : DS) : TS := fun D σ H => ∃ c : C, c.K = K ∧ c.ow = [4] ∧ LS c t D σ H
section
variable {X : Cx}
theorem gives_heard {g C1 C2 : Addr} {cdg : Value} {q : PySem.Str} {tR : DS} {rest : List Stmt} {a1 a2 a3 a4 a5 a6 a7 b1 b2 b3 b4 b5 b6 b7 b8 b9 b10 b11 b12 b13 c1 c2 c3 c4 c5 c6 : Pos}
    (m1 : X.mg "BondError" = some (.ref C1)) (m2 : X.mg "TooGreat" = some (.ref C2))
    (hrest : ∀ (s : Shared) (H : Hp) (c : C), c.K = X.K → c.ow = [4] → PSs (cxOf C8.CX0 X.prog X.w X.K X.mg X.base HN "_law_heard" heardScope g cdg X.A X.stack s H C8.E0).nox rest (LS c tR))
    (hsw : ∀ (s : Shared) (H : Hp), swappedStores [Expr.Tuple [Expr.Name "told" a1, Expr.Name "error" a2] 0 a3] (Expr.Tuple [Expr.List [] a4, Expr.Constant Const.none 0 a5] 0 a6) (cxOf C8.CX0 X.prog X.w X.K X.mg X.base HN "_law_heard" heardScope g cdg X.A X.stack s H C8.E0).nox.env = pure (some [("told" : PySem.Str), ("error" : PySem.Str)])) :
    GivesTo X HN "_law_heard" heardScope g cdg (heardBody a1 a2 a3 a4 a5 a6 a7 b1 b2 b3 b4 b5 b6 b7 b8 b9 b10 b11 b12 b13 c1 c2 c3 c4 c5 c6 rest) "call" q (TTh X.K C1 C2 tR) := by
  intro f c' s H Q tl act hc h
  have nd : HN.Nodup := by decide +kernel
  refine ⟨_, pss_cons (ps_par (X := (cxOf C8.CX0 X.prog X.w X.K X.mg X.base HN "_law_heard" heardScope g cdg X.A X.stack s H C8.E0).nox) (i := 1) (j := 2) rfl nd rfl rfl (by decide) rfl rfl (pa_cons (pe_lst pa_nil) (pa_cons pe_non pa_nil)) (hsw s H))
    (pss_cons (ps_try_keep (X := (cxOf C8.CX0 X.prog X.w X.K X.mg X.base HN "_law_heard" heardScope g cdg X.A X.stack s H C8.E0).nox) (i := 3) (j := 2) (c1 := .ref C1) (c2 := .ref C2) (Wout := fun _ _ _ _ => False)
      (tb := fun W D σ H' => ∃ Ech : XK, (∀ cls d σ' H2, Ech cls d H2 → σ'.length = 9 → W cls d σ' H2) ∧ σ[0]? = some (some (.ref f)) ∧ H' c' = some (CodeO c' q) ∧ ∃ R : VK, tl Ech H' R ∧ ∀ v H2, R v H2 → ∀ y, H2 y = none → D.nx (σ.set 1 (some (.ref y))) (upd H2 y (.lst [v])))
      rfl rfl nd rfl rfl rfl rfl (by decide) ⟨rfl, by decide, .inl m1⟩ ⟨rfl, by decide, .inl m2⟩ rfl L2.takes0 (fun W pn xe tk _ => ?hb) (fun a oe pn' => ?hsu))
    (pss_cons (ps_if (pt_cmpR op_isN (pv 2) pe_non (nomark _)) (pss_one (ps_ret (pv 1))) pss_nil)
    (show PSs _ rest (exHS X.K tR) from ⟨fun pins s1 σ H1 D I ⟨c, e1, e2, q⟩ => (hrest s H c e1 e2).run pins s1 σ H1 D I q⟩))), ?fin⟩
  case hb => refine ⟨fun pins s' σ H' D I ⟨Ech, hW, h1, h2, R, h3, h4⟩ => ?_⟩
             exact (pss_one (ps_set (i := 1) nd rfl (.inl rfl) (pe_lst (pa_cons (PE.ex (act (fun cls d σ H => σ.length = 9 → W cls d σ H) pn xe Ech b2 b3 (Takes.len tk) hW)) pa_nil)))).run pins s' σ H' D I ⟨R, ⟨h1, h2, h3⟩, fun v H2 hv => ⟨by show 1 ≤ sizeLine; decide, fun y hy => h4 v H2 hv y hy⟩⟩
  case hsu => refine PSs.weak (pss_one (ps_set (i := 2) nd rfl (.inl rfl) (pe_var (x := "e") (i := 3) rfl (.inl rfl)))) fun D σ H ⟨e, q⟩ => ⟨_, e, q⟩
  case fin =>
    refine ⟨by show 0 ≤ sizeLine; decide, fun l hl => ⟨.ref l, .non, rfl, ?_⟩⟩
    have hcl : c' ≠ l := fun z => by rw [z, hl] at hc; cases hc
    refine ⟨fun cls d H2 => PySem.W.exmAny X.K cls [.ref C1, .ref C2] = some true ∧ ∀ a, H2 a = none → ∃ c : C, c.K = X.K ∧ c.ow = [4] ∧ ∀ σ : L2.St, σ.length = 9 → σ[2]? = some (some (.ref a)) →
      LS c tR { nx := fun _ H' => Q .non H', rt := Q } σ (upd H2 a (xob a cls d)), fun cls d σ' H2 ⟨e1, e2⟩ hl => ⟨true, e1, fun _ a ha => ?_, fun z => nomatch z⟩, rfl, by rw [upd_ne hcl]; exact hc, _, h l hl, fun v H2 hv y hy => ⟨_, rfl, rfl, _, rfl, iteT ⟨_, rfl, hv y hy⟩⟩⟩
    obtain ⟨c, k1, k2, k3⟩ := e2 a ha
    have hl9 : (((σ'.set 3 (some (V.ref a))).set 2 (some (V.ref a))).set 3 none).length = 9 := by rw [List.length_set, List.length_set, List.length_set]; exact hl
    have h2 : (((σ'.set 3 (some (V.ref a))).set 2 (some (V.ref a))).set 3 none)[2]? = some (some (V.ref a)) := by
      rw [List.getElem?_set_ne (by decide), List.getElem?_set_self (by rw [List.length_set]; omega)]
    refine ⟨_, h2, rfl, _, rfl, ?_⟩
    rw [decide_eq_false (by intro z; cases z)]
    exact iteF ⟨c, k1, k2, k3 _ hl9 h2⟩
end
end DL
set_option maxHeartbeats 1000000
namespace DL
open PySem PySem.Spec PyProof.Rows L2 LamX LamD
open PySem.W (Frag)
theorem rep_ofW {K : Frag} {M : Option Mc} {X0 : List Addr} {H : Hp} {σ : L2.St} {sl : List Sl} {k : Nat} {ow : List Nat} (xm : ∀ a ∈ X0, a ∉ Ml M) (xs : ∀ a ∈ X0, H a ≠ none) (xt : ∀ a ∈ X0, ∀ ps, H a ≠ some (.tbl ps)) (hl : sl.length = σ.length) (hm : MAt M H k)
    (h : ∀ (i : Nat) (x : Sl), sl[i]? = some x → SlOk ⟨K, M, X0, H, ow⟩ X0 H σ[i]? x) (no : ∀ (i : Nat) (p : Addr) (ds : List D), sl[i]? ≠ some (.own p ds)) : Rep ⟨K, M, X0, H, ow⟩ ⟨X0, sl, k⟩ σ H :=
  ⟨Sub.refl _, fun _ _ _ _ => rfl, fun _ h => h, xm, xs, hm, h, fun i j p q ds es e _ _ => absurd e (no i p ds), hl, .refl, xt⟩
abbrev slH (x : D) : List Sl := [.no, .no, .dat x, .no, .no, .no, .no, .no, .no]
def HearsBy (spC : DSp) (tR : DS) : Prop := ∀ (X0 : List Addr) (x : D) (R : D → Nat → Prop), spC [x] 0 R → tR ⟨fun _ => False, R, fun _ => False, fun _ => False⟩ ⟨X0, slH x, 0⟩
def HeardSt (P : Program) (w : World) (K : Frag) (mg : PySem.Str → Option Value) (base : Heap) (st : Stmt) (spC : DSp) : Prop := ∃ (rest : List Stmt) (tR : DS) (a1 a2 a3 a4 a5 a6 a7 b1 b2 b3 b4 b5 b6 b7 b8 b9 b10 b11 b12 b13 c1 c2 c3 c4 c5 c6 : Pos),
  defBody st = heardBody a1 a2 a3 a4 a5 a6 a7 b1 b2 b3 b4 b5 b6 b7 b8 b9 b10 b11 b12 b13 c1 c2 c3 c4 c5 c6 rest ∧ defScope st = heardScope ∧
  (∀ (g : Addr) (cdv : Value) (A : Around) (ou : List Env) (s : Shared) (H : Hp), swappedStores [Expr.Tuple [Expr.Name "told" a1, Expr.Name "error" a2] 0 a3] (Expr.Tuple [Expr.List [] a4, Expr.Constant Const.none 0 a5] 0 a6) (cxOf C8.CX0 P w K mg base HN "_law_heard" heardScope g cdv A ou s H C8.E0).nox.env = pure (some [("told" : PySem.Str), ("error" : PySem.Str)])) ∧
  (∀ (g : Addr) (cdv : Value) (A : Around) (ou : List Env) (s : Shared) (H : Hp) (c : C), Room 0 (A.deeper (envOfC "_law_heard" heardScope s.heap.objs.size g cdv)) → c.K = K → c.ow = [4] → PSs (cxOf C8.CX0 P w K mg base HN "_law_heard" heardScope g cdv A ou s H C8.E0).nox rest (LS c tR)) ∧ HearsBy spC tR
structure HdB (P : Program) (w : World) (K : Frag) (mg : PySem.Str → Option Value) (base : Heap) (ns : List PySem.Str) (spC : DSp) : Prop where
  ex : ∃ (st : Stmt) (g C1 C2 : Addr) (fd : FuncData), Fun K "_law_heard" "_law_heard" st g fd ∧ L2.Binds K fd ["call"] [] ∧ mg "_law_heard" = some (.ref g) ∧ mg "BondError" = some (.ref C1) ∧ mg "TooGreat" = some (.ref C2) ∧
    (∀ n ∈ ns, PySem.W.exmAny K (.ref (He.ga K n)) [.ref C1, .ref C2] = some true) ∧ HeardSt P w K mg base st spC
end DL
namespace DL
open PySem L2
open PySem.W (Frag)
theorem Yl.zipL {c : C} {s0 : S} {Hs : Hp} {K : Frag} {a b : Addr} {vs us : List V} {ds es : List D} (hK : c.K = K) (h : SqL c.K (c.hid s0.X Hs) a vs) (r : RlA c.K (c.hid s0.X Hs) vs ds)
    (h' : SqL c.K (c.hid s0.X Hs) b us) (r' : RlA c.K (c.hid s0.X Hs) us es) : Yl c s0 Hs (Itz K a b) (pairD ds es) := fun i s σ H rp ad => by
  subst hK
  have h1 : SqL c.K H a vs := (ad.trans (wo_sub _ _)).sl h
  have h2 : SqL c.K H b us := (ad.trans (wo_sub _ _)).sl h'
  have r1 := r.mono ad
  have r2 := r'.mono ad
  refine ⟨fun hl => ⟨vs, us, h1, h2, by rw [pair_len] at hl; rw [r.len, r'.len]; omega⟩, fun d hd => ?_⟩
  obtain ⟨x, y, hx, hy, rfl⟩ := pair_at hd
  obtain ⟨v, hv, hr⟩ := r1.getD hx
  obtain ⟨u, hu, hr'⟩ := r2.getD hy
  refine ⟨⟨vs, us, v, u, h1, h2, hv, hu⟩, fun z H' ⟨T, v', u', e1, e2, e3, e4, e5⟩ => ?_⟩
  subst e1 e3
  have q1 := e4 vs h1
  have q2 := e5 us h2
  rw [hv] at q1
  rw [hu] at q2
  cases q1
  cases q2
  exact Yl.pair rp e2 hr hr'
abbrev iZl (t u : DE) : DI := fun s Q => t s fun d k => u (s.at k) fun e k' => ∃ ds es, d = .lst ds ∧ e = .lst es ∧ Q (pairD ds es) k'
section
variable {X : Cx} {c : C}
theorem pid_zipL (hK : c.K = X.K) {e e2 : Expr} {t u : DE} {p pos tpos : Pos} {elts : List Expr} {kk : Nat} (hm : X.mg "zip" = none) (h : PE X e (LE c t)) (h' : PE X e2 (LE c u)) (hg : Gl X "zip" := by rfl)
    (hs : starEach [e, e2] X.env = (false, eval e X.env) :: starEach [e2] X.env := by rfl) (hs2 : starEach [e2] X.env = (false, eval e2 X.env) :: starEach [] X.env := by rfl) (hpl : (backTo pos (starEach [e2] X.env)).any (·.1) = false := by rfl) :
    PI X (.Tuple elts kk tpos) (.Call (.Name "zip" p) [e, e2] [] pos) (LI c (iZl t u)) :=
  PI.weak (RZ.pi_zipA hg hm (pad_cons h (pad_cons h' pad_nil hs2) hs) hs hpl) fun σ H R ⟨s, Z, rp, q, f⟩ =>
    ⟨s, fun ds k => (match ds with | [d, e] => ∃ ds es, d = .lst ds ∧ e = .lst es ∧ Z (pairD ds es) k | _ => False), rp, q, fun ds k hq vs H1 r1 a1 e1 => by
      cases e1 with
      | nil => exact hq.elim
      | cons e1 e2 =>
        cases e2 with
        | nil => exact hq.elim
        | cons e2 e3 =>
          cases e3 with
          | cons _ _ => exact hq.elim
          | nil =>
            obtain ⟨i, j, hd, he, hz⟩ := hq
            subst hd he
            obtain ⟨a, vs, rfl, h1, r⟩ := e1.lstE
            obtain ⟨b, us, rfl, h2, r'⟩ := e2.lstE
            exact ⟨a, b, vs, us, rfl, .inl ⟨hK ▸ SqL.of (wo_sub _ _ _ _ h1), hK ▸ SqL.of (wo_sub _ _ _ _ h2), f _ k hz _ H1 r1 a1 (Yl.zipL hK (SqL.of h1) r (SqL.of h2) r')⟩⟩⟩
end
end DL
set_option maxHeartbeats 2000000
namespace PySem
namespace HandSPX
open Builtin Builtin.ObjectAttr
end HandSPX
end PySem
set_option maxHeartbeats 2000000
namespace DL
open PySem PySem.Spec PyProof.Rows L2
open PySem.W (Frag)
end DL
set_option maxHeartbeats 2000000
namespace DL
open PySem PySem.Spec PyProof.Rows L2
open PySem.W (Frag)
section
variable {X : Cx}
theorem call_isiEK {u : Value} : CallR X (.builtin "isinstance") (fun xs H Q => ∃ (a C : Addr) (c : V) (dd : Option Addr) (ns : List PySem.Str) (vs : List V) (b : Bool), xs = [.ref a, c] ∧ ClsV c u ∧ H a = some (xob a (.ref C) dd) ∧ ExF H dd ns vs ∧ ExK X.K C ∧ PySem.W.kitOne X.K (.ref C) u = some b ∧ Q (.bl b) H) := by
  intro pins s σ H xs us Q I r h
  obtain ⟨a, C, cv, dd, ns, vs, b, rfl, hc, ha, hf, T, e, q⟩ := h
  obtain ⟨u1, u2, rfl, r1, r2⟩ := vals2 r
  cases (show u1 = Value.ref a from r1)
  have e2 := hc.eq r2
  subst e2
  obtain ⟨ox, od, J, _⟩ := inst_exc I ha hf
  exact PySem.W.kia_one (PySem.W.kitx_exc T.cl T.xf.ga T.xf.gg T.xf.exC T.ca T.cg T.tk T.ob) I.kIn J e (fun z => nomatch z) fun tk => ⟨.bl b, H, I.tok tk, rfl, q⟩
end
end DL
namespace DL
open PySem L2 L2G
open PySem.W (Frag)
section
variable {X : Cx} {c : C} {p pos : Pos}
theorem call_reprA (hy : SysK X.K) (gu : X.A.guards = some []) (hu : X.A.units + 64 < cLine) : CallR X (.builtin "repr") (fun xs H Q => ∃ (v : V) (d : D), xs = [v] ∧ Rl X.K H v d ∧ ShwO d ∧ Q (.str d.py.shown) H) := by
  intro pins s σ H xs us Q I r ⟨v, d, e, dp, h1, q⟩
  subst e
  obtain ⟨u, rfl, ru⟩ := vals1 r
  obtain ⟨as, rd, hn⟩ := rl_reads I hy d dp ru h1.plo
  obtain ⟨b1, b2⟩ := showno_up d h1.plo h1.shw
  have hd := h1.dep
  have ref : ∀ a, u = Value.ref a → wpAny (model X.prog X.w) X.A (call (.builtin "repr") [u]) (EP X pins σ Q) X.xe s := fun a e => by
    subst e
    exact repr_of_reads' rd b2 (fun _ => hn) gu (by omega) (fun _ _ e => e) (fun h' u tk k => ⟨.str d.py.shown, H, I.kept k, ⟨u, rfl⟩, q⟩) (Nat.le_trans b1 h1.wg)
  cases d with
  | non =>
    cases dp
    cases (show u = Value.none from ru)
    exact PySem.P.repr_of_none ⟨.str _, H, I.tok _, ⟨_, rfl⟩, q⟩
  | bl b =>
    cases dp
    cases (show u = Value.bool b from ru)
    exact PySem.P.repr_of_bool ⟨.str _, H, I.tok _, ⟨_, rfl⟩, q⟩
  | int i =>
    cases dp
    obtain ⟨t, rfl⟩ := ru
    exact PySem.P.repr_of_int (of_decide_eq_true h1.shw) ⟨.str _, H, I.tok _, ⟨_, rfl⟩, q⟩
  | str x =>
    cases dp
    obtain ⟨t, rfl⟩ := ru
    exact PySem.P.repr_of_str ⟨.str _, H, I.tok _, ⟨_, rfl⟩, q⟩ (Nat.le_trans b1 h1.wg)
  | lst xs => cases dp with | lst hs ha => exact ref _ ru
  | tup xs => cases dp with | tup hs ha => exact ref _ ru
  | dic => cases dp with | dic hs => exact ref _ ru
  | ins _ _ _ => cases h1.plo
  | exc _ _ _ => cases h1.plo
  | dct _ _ => cases h1.plo
abbrev dRepA (t : DE) : DE := fun s Q => t s fun d k => ShwO d ∧ Q (.str d.py.shown) k
theorem pd_reprA (hK : c.K = X.K) (hy : SysK X.K) (gu : X.A.guards = some []) {j : Nat} (hr : Room j X.A) (hm : X.mg "repr" = none) {e : Expr} {t : DE} (h : PE X e (LE c t)) (hg : Gl X "repr" := by rfl) (hs : starEach [e] X.env = (false, eval e X.env) :: starEach [] X.env := by rfl) (hp : (backTo pos (starEach [] X.env)).any (·.1) = false := by rfl) :
    PE X (.Call (.Name "repr" p) [e] [] pos) (LE c (dRepA t)) :=
  (pe_callB (call_reprA hy gu hr.units) hg hm (by first | exact PySem.boot_repr | rfl) (pa_cons h pa_nil hs) (he := hs) (hpl := hp)).weak fun σ H Q ⟨s, R, rp, q, f⟩ => ⟨s, _, rp, q, fun d k ⟨h2, h3⟩ v H1 r1 a1 e1 =>
    ⟨v, d, rfl, hK ▸ e1.mono (wo_sub _ _), h2, f _ k h3 (.str d.py.shown) H1 r1 a1 (.str _)⟩⟩
end
end DL
set_option maxHeartbeats 2000000
namespace DL
open PySem PySem.Spec PyProof.Rows L2
open PySem.W (Frag)
theorem bootVE : bootBuiltins "ValueError" = some (.type "ValueError") := by decide +kernel
end DL
set_option maxHeartbeats 2000000
namespace DL
open PySem PySem.Spec PyProof.Rows L2
abbrev dIsiT (K : PySem.W.Frag) (T : String) (t : DE) : DE := fun s Q => t s fun d k => ∃ n ns ds b, d = .exc n ns ds ∧ ExK K (He.ga K n) ∧ PySem.W.kitOne K (.ref (He.ga K n)) (.type T) = some b ∧ Q (.bl b) k
theorem pd_isiT {X : Cx} {c : C} {pos p : Pos} (hK : c.K = X.K) {D : PySem.Str} {T : String} (hm : X.mg "isinstance" = none) (hT : X.mg D = none) (hb : bootBuiltins D = some (.type T)) {e : Expr} {t : DE} {pt : Pos} (h : PE X e (LE c t)) (hg : Gl X "isinstance" := by rfl) (hgT : Gl X D := by rfl) (hnT : D ≠ "__name__" := by decide) (hdT : (D == ("__debug__" : PySem.Str)) = false := by decide)
    (hs : starEach [e, Expr.Name D pt] X.env = (false, eval e X.env) :: starEach [Expr.Name D pt] X.env := by rfl) (hs2 : starEach [Expr.Name D pt] X.env = (false, eval (Expr.Name D pt) X.env) :: starEach [] X.env := by rfl) (hp : (backTo pos (starEach [Expr.Name D pt] X.env)).any (·.1) = false := by rfl) :
    PE X (.Call (.Name "isinstance" p) [e, .Name D pt] [] pos) (LE c (dIsiT X.K T t)) :=
  (pe_callB (call_isiEK (u := .type T)) hg hm PyProof.Rows.boot_isinstance (pa_cons h (pa_cons (pe_bltn (v := .ty T) hgT hT hb rfl hnT hdT) pa_nil hs2) hs) (he := hs) (hpl := hp)).weak fun σ H Q ⟨s, R, rp, q, f⟩ => ⟨s, _, rp, q, fun d k ⟨n, ns, ds, b, h1, h2, h3, h4⟩ v H1 r1 a1 e1 => by
    subst h1
    cases e1 with
    | exc hx hf hl hr => exact ⟨_, _, _, _, _, _, _, rfl, .ty _, by rw [← hK]; exact wo_sub _ _ _ _ hx, hf.mono (wo_sub _ _), h2, h3, f _ k h4 _ H1 r1 a1 (.bl _)⟩⟩
end DL
namespace BW
open PySem L2 DL
abbrev W10 : List (PySem.Str × PySem.Str) := [("BadBonds", "bonds"), ("BadWord", "word"), ("BadDeed", "deed"), ("BadText", "text"), ("BadRow", "row"), ("BadNumber", "number"), ("BadChoice", "choice"), ("Unlike", "unlike"), ("Endless", "endless"), ("NothingLeft", "left")]
abbrev U3 : List (PySem.Str × PySem.Str) := [("Unlike", "unlike"), ("Endless", "endless"), ("NothingLeft", "left")]
structure HAll (K : PySem.W.Frag) : Prop where
  ek : ∀ n ∈ NHD, ExK K (He.ga K n)
  no : ∀ p ∈ P4, p.1 ∈ NHD → PySem.W.findIn K (.ref (He.ga K p.1)) p.2.2 = some none
  nm : ("TooGreat" : PySem.Str) ∈ NHD → PySem.W.findIn K (.ref (He.ga K "TooGreat")) "most" = some none
  is : ∀ n ∈ NHD, ∀ d ∈ D11, PySem.W.kitOne K (.ref (He.ga K n)) (.ref (He.ga K d)) = some (decide (n = d))
  iv : ∀ n ∈ NHD, PySem.W.kitOne K (.ref (He.ga K n)) (.type "ValueError") = some (!decide (n = "TooGreat"))
theorem hallB_ok {K : PySem.W.Frag} (h : hallB K = true) : HAll K := by
  obtain ⟨h1, h⟩ := Bool.and_eq_true_iff.mp h
  obtain ⟨h2, h⟩ := Bool.and_eq_true_iff.mp h
  obtain ⟨h3, h⟩ := Bool.and_eq_true_iff.mp h
  obtain ⟨h4, h5⟩ := Bool.and_eq_true_iff.mp h
  refine ⟨fun n hn => exkB_ok (List.all_eq_true.mp h1 n hn), fun p hp hu => of_decide_eq_true (List.all_eq_true.mp h2 p (List.mem_filter.mpr ⟨hp, List.contains_iff_mem.mpr hu⟩)), fun hm => ?_, fun n hn d hd => of_decide_eq_true (List.all_eq_true.mp (List.all_eq_true.mp h4 n hn) d hd), fun n hn => of_decide_eq_true (List.all_eq_true.mp h5 n hn)⟩
  rcases Bool.or_eq_true_iff.mp h3 with z | z
  · rw [List.contains_iff_mem.mpr hm] at z; cases z
  · exact of_decide_eq_true z
theorem exmHB_ok {K : PySem.W.Frag} (h : exmHB K = true) : ∀ n ∈ NHD, PySem.W.exmAny K (.ref (He.ga K n)) [.ref (He.ga K "BondError"), .ref (He.ga K "TooGreat")] = some true := fun n hn => of_decide_eq_true (List.all_eq_true.mp h n hn)
def sp__law_heard : DSp := fun ds k R => ∃ n fs es, ds = [.exc n fs es] ∧ n ∈ NHD ∧ ((∃ e, n = "TooGreat" ∧ fs = [("most" : PySem.Str)] ∧ es = [e] ∧ R (.tup [.str "great", e]) k) ∨ (∃ e w f, (n, w, f) ∈ P4 ∧ fs = [f] ∧ es = [e] ∧ R (.tup [.str w, e]) k) ∨ (∃ w, (n, w) ∈ U3 ∧ fs = [] ∧ es = [] ∧ R (.str w) k))
abbrev t_htail (K : PySem.W.Frag) : DS := (dSeq (dIfS (dOr (dTB (dOp oNe (dLenN 6) (dC (.int 1)))) (dNot (dTru (dIsiT K "ValueError" (dVar 2))))) (dRet (dC (.str "odd"))) dNext)
  (dSeq (dIfS (dTB (dOp oIn (dIxN 6 (dC (.int 0))) (dTup (dCons (dC (.str "unlike")) (dCons (dC (.str "endless")) (dCons (dC (.str "left")) dNil)))))) (dRet (dIxN 6 (dC (.int 0)))) dNext)
  (dRet (dTup (dCons (dIxN 6 (dC (.int 0))) (dCons (dIf (dTB (dOp oIn (dIxN 6 (dC (.int 0))) (dTup (dCons (dC (.str "row")) (dCons (dC (.str "number")) (dCons (dC (.str "choice")) dNil)))))) (dXf K "value" (dVar 2)) (dXf K "place" (dVar 2))) dNil))))))
abbrev t__law_heard (K : PySem.W.Frag) : DS := (dSeq (dIfS (dTru (dIsiE K "TooGreat" (dVar 2))) (dRet (dIf (dNot (dTru (dIsiT K "ValueError" (dVar 2)))) (dTup (dCons (dC (.str "great")) (dCons (dXf K "most" (dVar 2)) dNil))) (dC (.str "odd")))) dNext)
  (dSeq (dSetO 4 (dLs (dCons (dIsiE K "BadBonds" (dVar 2)) (dCons (dIsiE K "BadWord" (dVar 2)) (dCons (dIsiE K "BadDeed" (dVar 2)) dNil)))))
  (dSeq (dSetO 4 (dPlN 4 (dFr (dLs (dCons (dIsiE K "BadText" (dVar 2)) (dCons (dIsiE K "BadRow" (dVar 2)) (dCons (dIsiE K "BadNumber" (dVar 2)) dNil)))))))
  (dSeq (dSetO 4 (dPlN 4 (dFr (dLs (dCons (dIsiE K "BadChoice" (dVar 2)) (dCons (dIsiE K "Unlike" (dVar 2)) (dCons (dIsiE K "Endless" (dVar 2)) dNil)))))))
  (dSeq (dApp 4 (dIsiE K "NothingLeft" (dVar 2)))
  (dSeq (dSet 5 (dFr (dLs (dCons (dC (.str "bonds")) (dCons (dC (.str "word")) (dCons (dC (.str "deed")) (dCons (dC (.str "text")) (dCons (dC (.str "row")) (dCons (dC (.str "number")) (dCons (dC (.str "choice")) (dCons (dC (.str "unlike")) (dCons (dC (.str "endless")) (dCons (dC (.str "left")) dNil)))))))))))))
  (dSeq (dFrzS (dSet 6 (dFr (dLc (iZl (dVar 5) (dVar 4)) (dgTup 2 (dgCons (dgN 7) (dgCons (dgN 8) dgNil))) (dTru (dVar 8)) (dVar 7) [7, 8]))))
  (dSeq (dIfS (dOr (dTB (dOp oNe (dLenN 6) (dC (.int 1)))) (dNot (dTru (dIsiT K "ValueError" (dVar 2))))) (dRet (dC (.str "odd"))) dNext)
  (dSeq (dIfS (dTB (dOp oIn (dIxN 6 (dC (.int 0))) (dTup (dCons (dC (.str "unlike")) (dCons (dC (.str "endless")) (dCons (dC (.str "left")) dNil)))))) (dRet (dIxN 6 (dC (.int 0)))) dNext)
  (dRet (dTup (dCons (dIxN 6 (dC (.int 0))) (dCons (dIf (dTB (dOp oIn (dIxN 6 (dC (.int 0))) (dTup (dCons (dC (.str "row")) (dCons (dC (.str "number")) (dCons (dC (.str "choice")) dNil)))))) (dXf K "value" (dVar 2)) (dXf K "place" (dVar 2))) dNil)))))))))))))
abbrev EnR (R : D → Nat → Prop) : DEnds := ⟨fun _ => False, R, fun _ => False, fun _ => False⟩
theorem filtP4 : ∀ p ∈ P4, (W10.filter fun q => decide (p.1 = q.1)) = [(p.1, p.2.1)] ∧ decide (p.1 = "TooGreat") = false := by decide
theorem filtU3 : ∀ p ∈ U3, (W10.filter fun q => decide (p.1 = q.1)) = [(p.1, p.2)] ∧ decide (p.1 = "TooGreat") = false := by decide
theorem iteBb {b : Bool} {p q : Prop} (h1 : b = true → p) (h2 : b = false → q) : if b = true then p else q := by
  cases b with
  | true => exact h1 rfl
  | false => exact h2 rfl
section
variable (K : PySem.W.Frag) (hX : HAll K)
include hX
theorem r_htail4 (X : List Addr) (n w f : PySem.Str) (e : D) (x1 x4 x5 : Sl) (k : Nat) (R : D → Nat → Prop) (hm : (n, w, f) ∈ P4) (hn : n ∈ NHD) (h : R (.tup [.str w, e]) k) :
    t_htail K (EnR R) ⟨X, [.no, .no, .dat (.exc n [f] [e]), .no, x4, x5, .dat (.lst [.str w]), .no, .no], k⟩ := by
  have hk := hX.ek n hn
  have hf := hX.no _ hm hn
  have hv := hX.iv n hn
  have nt : decide (n = "TooGreat") = false := by
    exact (filtP4 _ hm).2
  rw [nt] at hv
  refine ⟨_, rfl, rfl, rfl, _, rfl, iteF ⟨_, rfl, n, _, _, _, rfl, hk, hv, _, rfl, iteF ?_⟩⟩
  simp only [P4, List.mem_cons, List.not_mem_nil, or_false, Prod.mk.injEq] at hm
  rcases hm with ⟨rfl, rfl, rfl⟩ | ⟨rfl, rfl, rfl⟩ | ⟨rfl, rfl, rfl⟩ | ⟨rfl, rfl, rfl⟩ | ⟨rfl, rfl, rfl⟩ | ⟨rfl, rfl, rfl⟩ | ⟨rfl, rfl, rfl⟩
  all_goals
    refine ⟨_, rfl, _, _, rfl, rfl, by show 3 ≤ lim; decide, rfl, _, rfl, rfl, _, rfl, Eq.mpr (if_neg (by decide)) ?_⟩
    intro X'
    refine ⟨_, rfl, _, _, rfl, rfl, _, rfl, _, _, rfl, rfl, by show 3 ≤ lim; decide, rfl, _, rfl, rfl, _, rfl, ?_⟩
    first
      | exact Eq.mpr (if_pos (by decide)) ⟨_, rfl, _, _, e, rfl, rfl, hk, hf, by show 2 ≤ lim; decide, h⟩
      | exact Eq.mpr (if_neg (by decide)) ⟨_, rfl, _, _, e, rfl, rfl, hk, hf, by show 2 ≤ lim; decide, h⟩
theorem r_htailU (X : List Addr) (n w : PySem.Str) (x1 x4 x5 : Sl) (k : Nat) (R : D → Nat → Prop) (hm : (n, w) ∈ U3) (hn : n ∈ NHD) (h : R (.str w) k) :
    t_htail K (EnR R) ⟨X, [.no, .no, .dat (.exc n [] []), .no, x4, x5, .dat (.lst [.str w]), .no, .no], k⟩ := by
  have hk := hX.ek n hn
  have hv := hX.iv n hn
  have nt : decide (n = "TooGreat") = false := by
    exact (filtU3 _ hm).2
  rw [nt] at hv
  refine ⟨_, rfl, rfl, rfl, _, rfl, iteF ⟨_, rfl, n, _, _, _, rfl, hk, hv, _, rfl, iteF ?_⟩⟩
  simp only [U3, List.mem_cons, List.not_mem_nil, or_false, Prod.mk.injEq] at hm
  rcases hm with ⟨rfl, rfl⟩ | ⟨rfl, rfl⟩ | ⟨rfl, rfl⟩
  all_goals
    refine ⟨_, rfl, _, _, rfl, rfl, by show 3 ≤ lim; decide, rfl, _, rfl, rfl, _, rfl, Eq.mpr (if_pos (by decide)) ?_⟩
    intro X'
    exact ⟨_, rfl, _, _, rfl, rfl, h⟩
theorem r_hmid (X : List Addr) (n : PySem.Str) (fs : List PySem.Str) (es : List D) (w : PySem.Str) (k : Nat) (R : D → Nat → Prop) (hn : n ∈ NHD) (hw : (W10.filter fun p => decide (n = p.1)).map (fun p => D.str p.2) = [.str w]) (nt : decide (n = "TooGreat") = false)
    (h : ∀ X x4 x5, t_htail K (EnR R) ⟨X, [.no, .no, .dat (.exc n fs es), .no, x4, x5, .dat (.lst [.str w]), .no, .no], k⟩) : t__law_heard K (EnR R) ⟨X, slH (.exc n fs es), k⟩ := by
  have hk := hX.ek n hn
  have his := hX.is n hn
  have his0 := his "TooGreat" (by decide)
  rw [nt] at his0
  have hh : ∀ d ∈ D11, ∃ n' ns ds b, D.exc n fs es = .exc n' ns ds ∧ ExK K (He.ga K n') ∧ PySem.W.kitOne K (.ref (He.ga K n')) (.ref (He.ga K d)) = some b ∧ b = decide (n = d) := fun d hd => ⟨_, _, _, _, rfl, hk, his d hd, rfl⟩
  refine ⟨_, rfl, n, _, _, _, rfl, hk, his0, _, rfl, iteF ?_⟩
  refine ⟨_, rfl, n, _, _, _, rfl, hk, his "BadBonds" (by decide), _, rfl, n, _, _, _, rfl, hk, his "BadWord" (by decide), _, rfl, n, _, _, _, rfl, hk, his "BadDeed" (by decide), by show 3 ≤ lim; decide, fun p1 hp1 => ?_⟩
  refine ⟨p1, _, rfl, _, rfl, n, _, _, _, rfl, hk, his "BadText" (by decide), _, rfl, n, _, _, _, rfl, hk, his "BadRow" (by decide), _, rfl, n, _, _, _, rfl, hk, his "BadNumber" (by decide), by show 3 ≤ lim; decide, _, rfl, by show 3 + 3 ≤ lim; decide, fun p2 hp2 => ?_⟩
  refine ⟨p2, _, rfl, _, rfl, n, _, _, _, rfl, hk, his "BadChoice" (by decide), _, rfl, n, _, _, _, rfl, hk, his "Unlike" (by decide), _, rfl, n, _, _, _, rfl, hk, his "Endless" (by decide), by show 3 ≤ lim; decide, _, rfl, by show 6 + 3 ≤ lim; decide, fun p3 hp3 => ?_⟩
  refine ⟨p3, _, rfl, _, rfl, n, _, _, _, rfl, hk, his "NothingLeft" (by decide), by show 9 < lim; decide, ?_⟩
  refine ⟨by show 10 ≤ lim; decide, fun X' => ?_⟩
  refine ⟨_, rfl, _, rfl, _, _, rfl, rfl, by show 10 ≤ lim; decide, fun q hq => ⟨fun j acc k' => k' = k ∧ acc = ((W10.take j).filter (fun p => decide (n = p.1))).map (fun p => D.str p.2), ⟨rfl, rfl⟩, ?_, ?_⟩⟩
  · rintro j d acc k' hd ⟨rfl, rfl⟩ _
    have hd : (W10.map fun p => D.tup [.str p.2, .bl (decide (n = p.1))])[j]? = some d := hd
    rw [List.getElem?_map] at hd
    obtain ⟨m, hj, rfl⟩ := Option.map_eq_some_iff.mp hd
    have st : (W10.take (j + 1)).filter (fun p => decide (n = p.1)) = (W10.take j).filter (fun p => decide (n = p.1)) ++ if decide (n = m.1) = true then [m] else [] := by
      rw [List.take_succ, hj, List.filter_append]
      congr 1
      by_cases q : decide (n = m.1) = true
      · rw [if_pos q]; exact List.filter_cons_of_pos q
      · rw [if_neg q]; exact List.filter_cons_of_neg q
    refine ⟨rfl, rfl, _, rfl, _, rfl, ?_⟩
    refine iteBb (fun c => ?_) fun c => ?_
    · refine ⟨_, rfl, rfl, ?_⟩
      rw [st, c, if_pos rfl, List.map_append]
      rfl
    · exact ⟨rfl, by rw [st, c, if_neg (by decide), List.append_nil]⟩
  · rintro acc k' ⟨rfl, rfl⟩ _
    have e2 : ((W10.take 10).filter (fun p => decide (n = p.1))).map (fun p => D.str p.2) = [.str w] := by rw [show W10.take 10 = W10 from rfl]; exact hw
    show t_htail K (EnR R) ⟨X', [.no, .no, .dat (.exc n fs es), .no, _, _, .dat (.lst (((W10.take 10).filter (fun p => decide (n = p.1))).map (fun p => D.str p.2))), .no, .no], k'⟩
    rw [e2]
    exact h X' _ _
theorem r__law_heard : HearsBy sp__law_heard (t__law_heard K) := by
  rintro X x R ⟨n, fs, es, ex, hn, h⟩
  obtain rfl : x = .exc n fs es := by simpa using ex
  rcases h with ⟨e, rfl, rfl, rfl, h⟩ | ⟨e, w, f, hm, rfl, rfl, h⟩ | ⟨w, hm, rfl, rfl, h⟩
  · have hk := hX.ek _ hn
    have his0 := hX.is _ hn "TooGreat" (by decide)
    have hv := hX.iv _ hn
    have hf := hX.nm hn
    rw [decide_eq_true rfl] at his0 hv
    refine ⟨_, rfl, "TooGreat", _, _, _, rfl, hk, his0, _, rfl, iteT fun X' => ?_⟩
    refine ⟨_, rfl, "TooGreat", _, _, _, rfl, hk, hv, _, rfl, iteT ⟨_, rfl, _, _, e, rfl, rfl, hk, hf, by show 2 ≤ lim; decide, h⟩⟩
  · obtain ⟨e1, e2⟩ := filtP4 _ hm
    exact r_hmid K hX X n _ _ w 0 R hn (by rw [e1]; rfl) e2 fun X x4 x5 => r_htail4 K hX X n w f e .no x4 x5 0 R hm hn h
  · obtain ⟨e1, e2⟩ := filtU3 _ hm
    exact r_hmid K hX X n _ _ w 0 R hn (by rw [e1]; rfl) e2 fun X x4 x5 => r_htailU K hX X n w .no x4 x5 0 R hm hn h
end
end BW
set_option maxHeartbeats 1000000
namespace BW
open PySem L2 DL
abbrev badChoice (d : D) : D := .exc "BadChoice" ["value"] [d]
def WdO (T : Mat) (d : D) (k : Nat) (E : D → Nat → Prop) (G : List Int → Prop) : Prop := (∃ x, BadW T.length d x ∧ E x k) ∨ ∃ w, isW d w ∧ w.length ≤ 60 ∧ Wd T.length w ∧ G w
theorem WdO.imp {T : Mat} {d : D} {k : Nat} {E : D → Nat → Prop} {G G' : List Int → Prop} (h : WdO T d k E G) (f : ∀ w, Wd T.length w → w.length ≤ 60 → G w → G' w) : WdO T d k E G' := Or.imp id (fun ⟨w, a, b, c, g⟩ => ⟨w, a, b, c, f w c b g⟩) h
end BW
namespace BW
open PySem L2 DL
theorem Mx.snoc {H : Hp} {D q : Addr} {qs : List Addr} {M : Mat} {r : List Int} (mx : Mx H D qs M) (fq : H q = none) : Mx (upd (upd H q (.lst (r.map V.int))) D (.lst ((qs ++ [q]).map V.ref))) D (qs ++ [q]) (M ++ [r]) := by
  have nDq : D ≠ q := fun z => by have := mx.top; rw [z, fq] at this; cases this
  have nqs : q ∉ qs := fun z => by
    obtain ⟨j, hj⟩ := List.getElem?_of_mem z
    have hj2 : j < M.length := by have := (List.getElem?_eq_some_iff.mp hj).1; rw [mx.len] at this; exact this
    have := mx.row j q _ hj (List.getElem?_eq_getElem hj2)
    rw [fq] at this
    cases this
  refine ⟨upd_same, by rw [List.length_append, List.length_append, mx.len]; rfl, fun j b r' hb hr => ?_, ?_, ?_⟩
  · have nbD : b ≠ D := fun z => by
      rcases List.mem_append.mp (List.mem_of_getElem? hb) with h2 | h2
      · exact mx.out (z ▸ h2)
      · rw [List.mem_singleton] at h2
        exact nDq (z ▸ h2)
    rw [upd_ne nbD]
    by_cases hj : j < qs.length
    · rw [List.getElem?_append_left hj] at hb
      rw [List.getElem?_append_left (by rw [← mx.len]; exact hj)] at hr
      have nb : b ≠ q := fun z => nqs (z ▸ List.mem_of_getElem? hb)
      rw [upd_ne nb]
      exact mx.row j b r' hb hr
    · rw [List.getElem?_append_right (by omega)] at hb
      rw [List.getElem?_append_right (by rw [← mx.len]; omega), ← mx.len] at hr
      have ej : j - qs.length = 0 := by
        have := (List.getElem?_eq_some_iff.mp hb).1
        rw [List.length_singleton] at this
        omega
      rw [ej] at hb hr
      cases hb
      cases hr
      exact upd_same
  · exact List.nodup_append.mpr ⟨mx.nd, by simp, fun a ha b hb => by
      rw [List.mem_singleton] at hb
      subst hb
      exact fun z => nqs (z ▸ ha)⟩
  · intro z
    rcases List.mem_append.mp z with z | z
    · exact mx.out z
    · rw [List.mem_singleton] at z
      exact nDq z
theorem ones_row (n : Nat) : (List.replicate ((n : Int)).toNat [V.int 1]).flatten = ((List.range n).map fun _ => (1 : Int)).map V.int := by
  rw [Int.toNat_natCast]
  induction n with
  | zero => rfl
  | succ n ih => rw [List.replicate_succ', List.flatten_append, ih, range_step, List.map_append]; rfl
abbrev tOnes : TE := tOp rRep (tLst (tCons (tC (V.int 1)) tNil)) (tVar 1)
theorem nest_tab2 {X0 : List Addr} {n : Nat} {σ : L2.St} {H : Hp} {Q : VK} (xs : ∀ a ∈ X0, H a ≠ none) (n6 : n ≤ 6) (e1 : σ[1]? = some (some (.int n)))
    (h : ∀ p qs H', Keep none X0 H H' → H p = none → (∀ q ∈ qs, H q = none) → Mx H' p qs (fm n fun _ _ => 1) → Q (.ref p) H') :
    tLc (iRng1 (tCons (tVar 1) tNil)) (gName 7) tYes tOnes [7] σ H Q := by
  refine ⟨_, e1, n, rfl, by omega, by omega, fun D hD => ?_⟩
  rw [Int.toNat_natCast]
  refine ⟨fun i m H' => m = n - i ∧ i ≤ n ∧ ∃ qs, Keep none X0 H H' ∧ (∀ q ∈ qs, H q = none) ∧ Mx H' D qs ((List.range i).map fun _ => (List.range n).map fun _ => 1), ⟨n, rfl, Nat.zero_le _, [], Keep.refl.new xs hD, fun _ h => (nomatch h), ⟨upd_same, rfl, fun i q r e => by simp at e, List.nodup_nil, by simp⟩⟩, ?_⟩
  rintro i m H' ⟨rfl, hi, qs, kp, fr, mx⟩
  by_cases hlt : i < n
  · refine .inr ⟨hlt, fun H'' => ∃ qs, Keep none X0 H H'' ∧ (∀ q ∈ qs, H q = none) ∧ Mx H'' D qs ((List.range (i + 1)).map fun _ => (List.range n).map fun _ => 1), fun H'' ⟨qs, q⟩ => ⟨n - (i + 1), by omega, rfl, hlt, qs, q⟩, ?_⟩
    rintro x H'' ⟨rfl, rfl⟩
    refine ⟨?_, ?_⟩
    · show ((σ.set 7 none).set 7 (some (V.int (0 + (i : Int))))).set 7 none = σ.set 7 none
      rw [List.set_set, List.set_set]
    · unfold tYes
      dsimp only
      rw [if_pos rfl]
      have e1' : ((σ.set 7 none).set 7 (some (V.int (0 + (i : Int)))))[1]? = some (some (.int n)) := by
        rw [List.getElem?_set_ne (by decide), List.getElem?_set_ne (by decide)]; exact e1
      refine ⟨by show 1 ≤ sizeLine; decide, fun T hT => ⟨_, e1', T, n, [V.int 1], rfl, rfl, upd_same, by omega, by omega, ?_, fun q hq => ?_⟩⟩
      · rw [Int.toNat_natCast]
        show 1 * n ≤ sizeLine
        exact Nat.le_trans (by omega : _ ≤ 6) (by decide)
      · have kT : Keep none X0 H (upd H'' T (.lst [V.int 1])) := kp.new xs hT
        have mT := mx.keepT (o := .lst [V.int 1]) hT
        have kq := kT.new (o := .lst ((List.replicate ((n : Int)).toNat [V.int 1]).flatten)) xs hq
        have mq := mT.keepT (o := .lst ((List.replicate ((n : Int)).toNat [V.int 1]).flatten)) hq
        refine ⟨qs.map V.ref, mq.top, by rw [List.length_map, mx.len, List.length_map, List.length_range]; exact Nat.lt_of_lt_of_le (by omega : i < 6) (by decide), qs ++ [q], kq.mut xs hD (.at_ mq.top), fun b hb => ?_, ?_⟩
        · rcases List.mem_append.mp hb with hb | hb
          · exact fr b hb
          · rw [List.mem_singleton.mp hb]
            exact kT.fresh (by simp [Ml]) hq
        · have s := mT.snoc (r := (List.range n).map fun _ => 1) hq
          rw [← ones_row, List.map_append] at s
          rw [range_step]
          exact s
  · have e : i = n := by omega
    subst e
    exact .inl ⟨Nat.le_refl _, h D qs H' kp hD fr mx⟩
abbrev AL (v : Int) : Prop := v = 2 ∨ v = 3 ∨ v = 4 ∨ v = 6 ∨ v = 0
structure Gq (f : Nat → Nat → Int) (a b : Nat) : Prop where
  dg : ∀ i, f i i = 1
  sy : ∀ i j, f i j = f j i
  of : ∀ i j, j < i → (i < a ∨ (i = a ∧ j < b)) → AL (f i j)
theorem gq0 : Gq (fun _ _ => 1) 0 0 := ⟨fun _ => rfl, fun _ _ => rfl, fun i j h z => by omega⟩
theorem Gq.next {f : Nat → Nat → Int} {a : Nat} (g : Gq f a a) : Gq f (a + 1) 0 := ⟨g.dg, g.sy, fun i j h z => g.of i j h (by omega)⟩
theorem Gq.sw {f : Nat → Nat → Int} {a b : Nat} (g : Gq f a b) (hb : b < a) {v : Int} (hv : AL v) : Gq (fsw f a b v) a (b + 1) := by
  refine ⟨fun i => ?_, fun i j => ?_, fun i j h z => ?_⟩
  · unfold fsw
    rw [if_neg (by omega)]
    exact g.dg i
  · unfold fsw
    by_cases h : (i = a ∧ j = b) ∨ (i = b ∧ j = a)
    · rw [if_pos h, if_pos (by omega)]
    · rw [if_neg h, if_neg (by omega)]
      exact g.sy i j
  · unfold fsw
    by_cases c : (i = a ∧ j = b) ∨ (i = b ∧ j = a)
    · rw [if_pos c]; exact hv
    · rw [if_neg c]
      exact g.of i j h (by omega)
theorem tab_gq {n : Nat} {f : Nat → Nat → Int} (n1 : 1 ≤ n) (n6 : n ≤ 6) (g : Gq f n 0) : Tab (fm n f) := by
  refine ⟨by rw [fm_len]; exact n1, by rw [fm_len]; exact n6, fun i hi => ?_, fun i hi => ?_, fun i j hi hj ne => ?_, fun i j hi hj => ?_⟩
  · rw [fm_len] at hi ⊢
    rw [fm_row hi, List.length_map, List.length_range]
  · rw [fm_len] at hi
    rw [fm_at hi hi]
    exact g.dg i
  · rw [fm_len] at hi hj
    rw [fm_at hi hj]
    by_cases c : j < i
    · exact g.of i j c (.inl hi)
    · rw [g.sy]
      exact g.of j i (by omega) (.inl hj)
  · rw [fm_len] at hi hj
    rw [fm_at hi hj, fm_at hj hi]
    exact g.sy i j
abbrev tSt (K : PySem.W.Frag) (i j : Nat) : TS := tAsg (tVar 6) (gSub (tOp (rIxL K) (tVar 3) (tVar i)) (tVar j) rSetL)
theorem st_tab {K : PySem.W.Frag} {σ : L2.St} {H : Hp} {D : Ends} {p : Addr} {qs : List Addr} {M : Mat} {i j a b : Nat} {v x y : Int} (hx : x = a) (hy : y = b) (mx : Mx H p qs M) (ha : a < M.length) (hb : b < (M.getD a []).length) (e3 : σ[3]? = some (some (V.ref p))) (ei : σ[i]? = some (some (V.int x))) (ej : σ[j]? = some (some (V.int y))) (e6 : σ[6]? = some (some (V.int v)))
    (h : ∀ H', (∀ x o, x ∉ qs → H x = some o → H' x = some o) → TbK H H' → Mx H' p qs (M.set a ((M.getD a []).set b v)) → D.nx σ H') : tSt K i j D σ H := by
  subst hx hy
  obtain ⟨q1, hq1⟩ : ∃ q, qs[a]? = some q := ⟨qs[a]'(by rw [mx.len]; exact ha), List.getElem?_eq_getElem _⟩
  have m1 : M[a]? = some (M.getD a []) := getD_get ha
  refine ⟨_, e6, _, e3, _, ei, p, qs.map V.ref, _, .ref q1, rfl, rfl, SqL.of mx.top, atI_nat (by rw [List.getElem?_map, hq1]; rfl), ?_⟩
  refine ⟨_, ej, q1, (M.getD a []).map V.int, _, b, rfl, rfl, mx.row a q1 _ hq1 m1, ixN_nat (j := b) (by rw [List.length_map]; exact hb), ?_⟩
  have e1 : ((M.getD a []).map V.int).set b (V.int v) = ((M.getD a []).set b v).map V.int := by rw [List.map_set]
  rw [e1]
  exact h _ (fun x o hx ex => by rw [upd_ne (fun z => hx (by rw [z]; exact List.mem_of_getElem? hq1))]; exact ex) (TbK.at_ (mx.row a q1 _ hq1 m1)) (mx.set hq1 _)
theorem st_two {K : PySem.W.Frag} {σ : L2.St} {H : Hp} {D : Ends} {p : Addr} {qs : List Addr} {n : Nat} {f : Nat → Nat → Int} {a b : Nat} {v x y : Int} (hx : x = a) (hy : y = b) (mx : Mx H p qs (fm n f)) (ha : a < n) (hb : b < n) (ne : a ≠ b) (e3 : σ[3]? = some (some (V.ref p))) (e4 : σ[4]? = some (some (V.int x))) (e5 : σ[5]? = some (some (V.int y))) (e6 : σ[6]? = some (some (V.int v)))
    (h : ∀ H', (∀ x o, x ∉ qs → H x = some o → H' x = some o) → TbK H H' → Mx H' p qs (fm n (fsw f a b v)) → D.nx σ H') : tSeq (tSt K 4 5) (tSt K 5 4) D σ H := by
  have ln := fm_len n f
  have l1 : ∀ {i}, i < n → ((fm n f).getD i []).length = n := fun {i} hi => by rw [fm_row hi, List.length_map, List.length_range]
  refine st_tab hx hy mx (by omega) (by rw [l1 ha]; exact hb) e3 e4 e5 e6 fun H1 k1 t1 m1 => ?_
  have gb : ((fm n f).set a (((fm n f).getD a []).set b v)).getD b [] = (fm n f).getD b [] := by
    rw [List.getD_eq_getElem?_getD, List.getElem?_set_ne ne, ← List.getD_eq_getElem?_getD]
  refine st_tab hy hx m1 (by rw [List.length_set]; omega) (by rw [gb, l1 hb]; exact ha) e3 e5 e4 e6 fun H2 k2 t2 m2 => ?_
  rw [gb, fm_sw ha hb ne] at m2
  exact h H2 (fun x o hx ex => k2 x o hx (k1 x o hx ex)) (t1.trans t2) m2
structure S9 (m : Mc) (n : Nat) (u2 : V) (p : Addr) (σ : L2.St) : Prop where
  len : σ.length = 8
  e0 : σ[0]? = some (some (.ref m.pm))
  e1 : σ[1]? = some (some (.int n))
  e2 : σ[2]? = some (some u2)
  e3 : σ[3]? = some (some (.ref p))
  kd : m.kd = none
theorem S9.set {m : Mc} {n : Nat} {u2 : V} {p : Addr} {σ : L2.St} (h : S9 m n u2 p σ) {i : Nat} (hi : 4 ≤ i) (v : Option V) : S9 m n u2 p (σ.set i v) :=
  ⟨by rw [List.length_set]; exact h.len, by rw [List.getElem?_set_ne (by omega)]; exact h.e0, by rw [List.getElem?_set_ne (by omega)]; exact h.e1, by rw [List.getElem?_set_ne (by omega)]; exact h.e2, by rw [List.getElem?_set_ne (by omega)]; exact h.e3, h.kd⟩
abbrev sS9 (X0 : List Addr) (zs : List Int) (k : Nat) : S := ⟨X0, [.mst, .no, .dat (.lst (zs.map .int)), .no, .no, .no, .no, .no], k⟩
theorem rep9 {K : PySem.W.Frag} {m : Mc} {n : Nat} {u2 : V} {zs : List Int} {p : Addr} {X0 : List Addr} {σ : L2.St} {H : Hp} {k : Nat} (xm : ∀ a ∈ X0, a ∉ Ml (some m)) (xs : ∀ a ∈ X0, H a ≠ none) (xt : ∀ a ∈ X0, ∀ ps, H a ≠ some (.tbl ps)) (h : S9 m n u2 p σ) (ru : Rl K (wo H (Ml (some m) ++ X0)) u2 (.lst (zs.map .int))) (hm : MAt (some m) H k) :
    Rep ⟨K, some m, X0, H, []⟩ (sS9 X0 zs k) σ H := by
  refine rep_of xm xs xt h.len.symm hm (fun i x e => ?_) (fun i p ds e => ?_)
  · match i, e with
    | 0, e => cases e; exact ⟨m, ⟨rfl, h.kd⟩, h.e0⟩
    | 1, e => cases e; trivial
    | 2, e => cases e; exact ⟨_, h.e2, ru⟩
    | 3, e => cases e; trivial
    | 4, e => cases e; trivial
    | 5, e => cases e; trivial
    | 6, e => cases e; trivial
    | 7, e => cases e; trivial
  · have mem := List.mem_of_getElem? e
    simp at mem
theorem le9 {K : PySem.W.Frag} {m : Mc} {n : Nat} {u2 : V} {zs : List Int} {p : Addr} {X0 : List Addr} {σ : L2.St} {H : Hp} {k : Nat} (xm : ∀ a ∈ X0, a ∉ Ml (some m)) (xs : ∀ a ∈ X0, H a ≠ none) (xt : ∀ a ∈ X0, ∀ ps, H a ≠ some (.tbl ps)) (h : S9 m n u2 p σ) (ru : Rl K (wo H (Ml (some m) ++ X0)) u2 (.lst (zs.map .int))) (hm : MAt (some m) H k) {t : DE} {R : D → Nat → Prop} {Q : VK}
    (ht : t (sS9 X0 zs k) R) (hq : ∀ d k', R d k' → ∀ v H', Keep (some m) X0 H H' → MAt (some m) H' k' → Rl K (wo H' (Ml (some m) ++ X0)) v d → Q v H') : exLE K t σ H Q :=
  ⟨⟨K, some m, X0, H, []⟩, rfl, _, R, rep9 xm xs xt h ru hm, ht, fun d k' hR v H' r a e => hq d k' hR v H' (Keep.rep r xm xs) r.m e⟩
abbrev t_k2 : DE := dIxN 2 (dCallM 0 sp__law_draw (dCons (dLenN 2) dNil))
def sp__law_tableS : DSp := fun ds k R => ∃ (n : Nat) (zs : List Int), ds = [.int n, .lst (zs.map .int)] ∧ 1 ≤ n ∧ n ≤ 6 ∧ zs ≠ [] ∧ zs.length ≤ 100 ∧ (∀ z ∈ zs, AL z) ∧ k < 90000000000 ∧ ∀ (T : Mat) (k' : Nat), Tab T → T.length = n → k ≤ k' → k' ≤ k + 40 → R (lM T) k'
end BW
set_option maxHeartbeats 1000000
set_option maxHeartbeats 1000000
set_option maxHeartbeats 1000000
namespace BW
open PySem L2 DL
inductive Dm : Nat → D → Prop
  | non {n : Nat} : Dm n .non
  | bl {n : Nat} (b : Bool) : Dm n (.bl b)
  | int {n : Nat} (i : Int) : Dm n (.int i)
  | str {n : Nat} {x : PySem.Str} : PyData.strOk x = true → Dm n (.str x)
  | tup {n : Nat} {xs : List D} : xs.length ≤ 210000 → (n = 0 → xs.length ≤ 800) → (∀ x ∈ xs, Dm n x) → Dm (n + 1) (.tup xs)
theorem Dm.val {n : Nat} {d : D} (h : Dm n d) : Val (n + 1) d := by
  induction h with
  | non => exact .non
  | bl b => exact .bl b
  | int i => exact .int i
  | str h => exact .str h
  | @tup n xs h1 h2 h3 ih => exact .tup (by omega) (fun z => Nat.le_trans (h2 (by omega)) (by decide)) ih
theorem Dm.up {n : Nat} {d : D} (h : Dm n d) : ∀ {m : Nat}, n ≤ m → Dm m d := by
  induction h with
  | non => exact fun _ => .non
  | bl b => exact fun _ => .bl b
  | int i => exact fun _ => .int i
  | str h => exact fun _ => .str h
  | @tup n xs h1 h2 h3 ih =>
    intro m hm
    obtain ⟨m, rfl⟩ : ∃ k, m = k + 1 := ⟨m - 1, by omega⟩
    exact .tup h1 (fun z => h2 (by omega)) fun x hx => ih x hx (by omega)
end BW
set_option maxHeartbeats 1000000
namespace DL
open PySem L2
open PySem.W (Frag dataLe AllAlike Sortable)
open PySem.W (EachIs)
theorem each_vals : ∀ {zs : List (V × PyData)} {its : List Value}, Vals (zs.map (·.1)) its → EachIs (fun u (z : V × PyData) => RelV z.1 u) its zs
  | [], _, r => by cases r; exact .nil
  | z :: zs, _, r => by
    cases r with
    | cons h t => exact .cons h (each_vals t)
theorem vals_each : ∀ {zs : List (V × PyData)} {its : List Value}, EachIs (fun u (z : V × PyData) => RelV z.1 u) its zs → Vals (zs.map (·.1)) its
  | [], _, r => by cases r; exact .nil
  | z :: zs, _, r => by
    cases r with
    | cons h t => exact .cons h (vals_each t)
end DL
namespace DL
open PySem L2
open PySem.W (Frag dataLe AllAlike Sortable)
theorem RlA.zip_mem {K : Frag} {H : Hp} : ∀ {vs : List V} {ds : List D}, RlA K H vs ds → ∀ z ∈ vs.zip ds, Rl K H z.1 z.2
  | _, _, .nil, z, h => by cases h
  | _, _, .cons h1 h2, z, h => by
    rcases List.mem_cons.mp h with rfl | h
    · exact h1
    · exact RlA.zip_mem h2 z h
theorem RlA.of_zip {K : Frag} {H : Hp} : ∀ {l : List (V × D)}, (∀ z ∈ l, Rl K H z.1 z.2) → RlA K H (l.map (·.1)) (l.map (·.2))
  | [], _ => .nil
  | z :: r, h => .cons (h z List.mem_cons_self) (RlA.of_zip fun y hy => h y (List.mem_cons_of_mem _ hy))
end DL
set_option maxHeartbeats 1000000
namespace DL
open PySem PySem.Spec PyProof.Rows L2 LamX
open PySem.W (Frag dataLe AllAlike Sortable EachIs KeyPure)
abbrev kfScope : Scope := { kind := .function, names := [("letters", .local), ("len", .globalImplicit)], isGenerator := false, isCoroutine := false }
abbrev kfArgs (p1 : Pos) : Arguments := { posonlyargs := [], args := [{ arg := "letters", annotation := none, pos := p1 }], vararg := none, kwonlyargs := [], kw_defaults := [], kwarg := none, defaults := [] }
abbrev kfBody (q1 q2 q3 q4 q5 : Pos) : Expr := .Tuple [.Call (.Name "len" q1) [.Name "letters" q2] [] q3, .Name "letters" q4] 0 q5
theorem kf_scope : FnScope ["letters"] ["letters"] kfScope := ⟨rfl, rfl, rfl, by decide +kernel, rfl, by decide +kernel, by decide +kernel⟩
section
variable {X : Cx} {pins : List (Addr × Obj)} {σ : L2.St} {H : Hp} {s : Shared} {q : PySem.Str} {f c' a : Addr} {pm ctv : Value} {p1 q1 q2 q3 q4 q5 : Pos} {its : Array Value} {ds : List PyData}
theorem kf_turn (I : Inv X pins σ H s) (hr : Room 2 X.A) (hf : s.heap.get? f = some (PySem.W.kla_obj "<lambda>" q (kfArgs p1) (kfBody q1 q2 q3 q4 q5) kfScope [] pm c' ctv)) (hc : H c' = some (CodeO c' q)) (hm : X.mg "len" = none) (ht : IsTup s.heap a its) (hn : its.size ≤ 1000000) (rd : Reads s.heap (.ref a) (.tuple ds) []) (hds : ds.length = its.size) :
    wpAny (model X.prog X.w) X.A.in1.in1 (call (.ref f) [.ref a]) (KeyPure (.tuple [.int its.size, .tuple ds]) s) (fun _ _ => False) s := by
  obtain ⟨⟨oc, vs, t, hoc, hdc, hvc⟩, _, _⟩ := I.hok c' _ hc
  have e0 : Env0 X.prog X.w X.K X.mg X.base X.A.in1.in1 X.stack s H := I.env0.in1.in1
  have hd : X.A.in1.in1.handled = none := hr.hd
  refine wpAny_call ?_
  refine codeAny_mono (R := fun r s' => ∃ u, r = .ok (.ret u) ∧ KeyPure (.tuple [.int its.size, .tuple ds]) s u s') ?_ ?_
  · refine PySem.W.kla_callFunE (by have := hr.dp; show X.A.depth < _; omega) hf rfl rfl rfl rfl ⟨c', oc, vs, t, rfl, hoc, hdc, hvc⟩ ?_
    have hb : bindArgs (PySem.W.kla_fn "<lambda>" q (kfArgs p1) (kfBody q1 q2 q3 q4 q5) kfScope [] pm (.ref c') ctv) ⟨[Value.ref a], []⟩ = pure [(("letters" : PySem.Str), Value.ref a)] := rfl
    rw [hb]
    refine wpAny_pure (wpAny_newFunctionEnv_cells rfl (fun y hy => ?_) fun env he s1 x => ?_)
    · rcases List.mem_singleton.mp hy with rfl
      exact .inl rfl
    subst he
    refine ⟨I.nolimit.keeps x.toInCall.keep, ?_⟩
    have J := inv_start (CX := CX0) (P := X.prog) (w := X.w) (K := X.K) (mg := X.mg) (base := X.base) (qual := q) (f := f) (cd := .ref c') (E := C8.E0) (us := [.ref a]) (vs := [.ref a]) kf_scope hd e0 rfl (.cons rfl .nil) x
    obtain ⟨h1, tk, rfl⟩ := x.toInCall.same
    have kp : ∀ b o, s.heap.get? b = some o → h1.get? b = some o := x.toInCall.keep
    refine PySem.W.kla_codeExpr ?_
    have go : wpAny (model X.prog X.w) (cxOf CX0 X.prog X.w X.K X.mg X.base ["letters"] q kfScope f (.ref c') X.A.in1.in1 X.stack s H C8.E0).A (eval (kfBody q1 q2 q3 q4 q5) (cxOf CX0 X.prog X.w X.K X.mg X.base ["letters"] q kfScope f (.ref c') X.A.in1.in1 X.stack s H C8.E0).env)
        (fun u s' => KeyPure (.tuple [.int its.size, .tuple ds]) s u s') (fun _ _ => False) { s with heap := h1, toks := tk } := by
      obtain ⟨m, hn1, hl⟩ := J.loc
      obtain ⟨u, ru, lk⟩ := hl 0 "letters" (.ref a) rfl rfl (.inl rfl)
      obtain rfl : u = Value.ref a := ru
      have lm : m "letters" = some (.ref a) := by
        rcases lk with ⟨_, z⟩ | ⟨z, _⟩
        · exact z
        · rcases z with z | z
          · exact absurd (show (some NameKind.local : Option NameKind) = some .cell from z) (by decide)
          · exact absurd (show (some NameKind.local : Option NameKind) = some .free from z) (by decide)
      have name : ∀ {pos : Pos} {k2 : Nat} {Q : Value → Shared → Prop} {E : Value → Shared → Prop}, Q (.ref a) { s with heap := h1, toks := k2 } → wpAny (model X.prog X.w) (cxOf CX0 X.prog X.w X.K X.mg X.base ["letters"] q kfScope f (.ref c') X.A.in1.in1 X.stack s H C8.E0).A (eval (.Name "letters" pos) (cxOf CX0 X.prog X.w X.K X.mg X.base ["letters"] q kfScope f (.ref c') X.A.in1.in1 X.stack s H C8.E0).env) Q E { s with heap := h1, toks := k2 } :=
        fun {pos k2 Q E} h => wpAny_Name (wpAny_loadName_local J.ok.kind rfl hn1 lm h) (by decide)
      have ht1 : IsTup h1 a its := ht.keeps kp
      refine wpAny_Tuple (wpAny_items_cons (wpAny_Call_Name_kw (ld_blt (X := cxOf CX0 X.prog X.w X.K X.mg X.base ["letters"] q kfScope f (.ref c') X.A.in1.in1 X.stack s H C8.E0) J rfl hm PySem.boot_len ?_)))
      refine PyProof.Rows.callWith_builtin1 (PyProof.Rows.args_cons (name (PyProof.Rows.args_nil ?_)))
      refine PyProof.Rows.len_tuple ht1 (by omega) ?_
      refine wpAny_items_cons (name (wpAny_items_nil ⟨by size_fits, ?_⟩))
      refine ⟨_, _, rfl, fun b o e => Heap.get?_push_of_some _ (kp b o e), ?_⟩
      refine .tuple (as := []) (Heap.get?_push_size _ rfl) rfl rfl ?_
      exact .cons (as := []) (bs := []) (.int _ _) (.cons (as := []) (bs := []) (PyProof.Rows.Reads.keeps (fun b o e => Heap.get?_push_of_some _ (kp b o e)) rd) .nil)
    exact wpAny_mono go (fun u s' h => ⟨u, rfl, h⟩) fun _ _ z => z.elim
  · rintro r s' ⟨u, rfl, h⟩
    exact h
end
end DL
set_option maxHeartbeats 1000000
namespace DL
open PySem PySem.Spec PyProof.Rows L2 LamX
open PySem.W (Frag dataLe AllAlike Sortable EachIs KeyPure)
def kLen : D → PyData
  | .tup xs => D.py (.tup [.int xs.length, .tup xs])
  | _ => .none
abbrev tIs (w : List Int) : D := .tup (w.map D.int)
theorem kLen_tI (w : List Int) : kLen (tIs w) = .tuple [.int w.length, .tuple (w.map PyData.int)] := by
  show PyData.tuple (pyA [.int ((w.map D.int).length : Int), .tup (w.map D.int)]) = _
  rw [List.length_map]
  show PyData.tuple [.int w.length, .tuple (pyA (w.map D.int))] = _
  rw [py_ints]
abbrev dSortLen (t : DE) : DA := fun s Q => t s fun d k => ∃ ws : List (List Int), d = .lst (ws.map tIs) ∧ ws.length ≤ lim ∧ (∀ w ∈ ws, w.length ≤ 1000) ∧ Q ((ws.map tIs).mergeSort (dataLe false kLen)) k
theorem reads_ints {h : Heap} : ∀ {w : List Int} {us : List Value}, Vals (w.map V.int) us → ReadsAll h us (w.map PyData.int) []
  | [], _, r => by cases r; exact .nil
  | i :: w, _, r => by
    cases r with
    | cons h1 t =>
      obtain ⟨tk, rfl⟩ := h1
      exact .cons (as := []) (bs := []) (.int _ _) (reads_ints t)
theorem alike_kl (a b : List Int) : PySem.W.alike (kLen (tIs a)) (kLen (tIs b)) = true := by
  rw [kLen_tI, kLen_tI]
  simp only [PySem.W.alike, PySem.W.alikeAll, PySem.W.alike_ints, Bool.and_self, Bool.and_true]
theorem allAlike_kl {l : List PyData} (h : ∀ d ∈ l, ∃ w, d = kLen (tIs w)) : AllAlike l := by
  obtain ⟨ws, rfl⟩ : ∃ ws : List (List Int), l = ws.map fun w => kLen (tIs w) := by
    induction l with
    | nil => exact ⟨[], rfl⟩
    | cons d l ih =>
      obtain ⟨ws, rfl⟩ := ih fun x hx => h x (List.mem_cons_of_mem _ hx)
      obtain ⟨w, rfl⟩ := h d List.mem_cons_self
      exact ⟨w :: ws, rfl⟩
  exact AllAlike.of fun a b => alike_kl a b
theorem sortable_kl {l : List PyData} (h : ∀ d ∈ l, ∃ w, d = kLen (tIs w)) : Sortable l := by
  obtain ⟨ws, rfl⟩ : ∃ ws : List (List Int), l = ws.map fun w => kLen (tIs w) := by
    induction l with
    | nil => exact ⟨[], rfl⟩
    | cons d l ih =>
      obtain ⟨ws, rfl⟩ := ih fun x hx => h x (List.mem_cons_of_mem _ hx)
      obtain ⟨w, rfl⟩ := h d List.mem_cons_self
      exact ⟨w :: ws, rfl⟩
  exact Sortable.tuples fun w => ⟨_, _, kLen_tI w⟩
theorem depth_kl (w : List Int) : (kLen (tIs w)).depth ≤ 10 := by
  rw [kLen_tI]
  simp [PyData.depth, PyData.depthAll, PySem.W.depth_ints]
section
variable {X : Cx} {c : C} {T : List (Addr × PySem.Str)} {j : Nat} {cc Pt : Addr} {q : PySem.Str} {e : Expr} {t : DE} {p pos kpos lpos p1 q1 q2 q3 q4 q5 : Pos}
theorem pdf_kf (hK : c.K = X.K) (fr : LwC c T) (it : InT T Pt q) (TB : TabB X.base X.mg cc Pt) (hcode : X.env.code = .ref cc) (hr : Room j X.A) (hj : 2 ≤ j) (hms : X.mg "sorted" = none) (hml : X.mg "len" = none) (he : PE X e (LE c t))
    (hq : X.env.qual ++ "<lambda>" = q := by rfl) (hg : Gl X "sorted" := by rfl) (hs : starEach [e] X.env = (false, eval e X.env) :: starEach [] X.env := by rfl) (hp : (backTo pos (starEach [e] X.env)).any (·.1) = false := by rfl) (hb : backTo pos (starEach [e] X.env) = (false, eval e X.env) :: backTo pos (starEach [] X.env) := by rfl) :
    PE X (.Call (.Name "sorted" p) [e] [⟨some "key", .Lambda (kfArgs p1) (kfBody q1 q2 q3 q4 q5) kfScope lpos, kpos⟩] pos) (LF c (dSortLen t)) := by
  obtain ⟨⟨m, hM, hT, _⟩, h0⟩ := fr
  refine ⟨fun pins s σ H Q I ⟨st, R, rp, hq1, fin⟩ => ?_⟩
  refine wpAny_Call_Name_kw (ld_blt I hg hms (by first | exact PySem.boot_sorted | exact PyProof.Rows.boot_sorted | rfl) ?_)
  refine PyProof.Rows.callWith_kw (thn ((pa_cons he pa_nil hs).run pos pins s σ H (fun vs H1 => ∃ d k, (∃ ws : List (List Int), d = D.lst (ws.map tIs) ∧ ws.length ≤ lim ∧ (∀ w ∈ ws, w.length ≤ 1000) ∧ R ((ws.map tIs).mergeSort (dataLe false kLen)) k) ∧ Rep c (st.at k) σ H1 ∧ AdvE c st.X H H1 ∧ Rl c.K (c.hid st.X H1) (vs.headD .non) d ∧ vs = [vs.headD .non]) I ⟨st, _, rp, hq1, fun d k h v H1 r1 a1 e1 => ⟨d, k, h, r1, a1, e1, rfl⟩⟩) fun us s1 ⟨vs, H1, I1, r1, hh⟩ => ?_) hb hp
  obtain ⟨d, k, ⟨ws, rfl, hl, hw, hR⟩, rp1, ad1, e1, ev⟩ := hh
  generalize hv : vs.headD V.non = v at e1 ev
  subst ev
  obtain ⟨a, xs, rfl, ha, rx⟩ := e1.lstE
  rw [Vals.ref1 r1]
  have htabs : Tabs T H1 := by
    have z := rp1.m
    rw [hM] at z
    have tb := z.tabs
    rw [← hT]; exact tb
  show wpAny _ _ (evalAll [do let v ← eval (.Lambda (kfArgs p1) (kfBody q1 q2 q3 q4 q5) kfScope lpos) X.env; standAt pos; pure v]) _ _ s1
  refine wpAny_evalAll_cons (wpAny_bind (lam_make2 I1 TB hcode (by rw [hq]; exact it.mem) (fun p hp e => by rw [hq]; exact it.uni p hp e) htabs rfl (fun y hy e => ?_) fun f c' pm ctv H2 s2 I2 eN T2 hf hfn hfr hco => wpAny_bind (wpAny_standAt (wpAny_pure (wpAny_evalAll_nil ?_)))))
  · simp at hy
    rcases hy with rfl | rfl <;> cases e
  · obtain ⟨rp2, ad2⟩ := rp1.extN hM h0 eN (by rw [hT]; exact T2)
    have ha2 : H2 a = some (.lst xs) := by
      obtain ⟨_, _, nt⟩ := wo_all ha
      exact eN _ _ (wo_sub _ _ _ _ ha) nt
    have rx2 : RlA c.K (c.hid st.X H2) xs (ws.map tIs) := rx.mono ad2.sub
    have ln := rx2.len
    have clo : cloFrom X.env.cells kfScope.names [] = [] := rfl
    rw [clo] at hf
    let zd : List (V × D) := xs.zip (ws.map tIs)
    let g : V × D → V × PyData := fun z => (z.1, kLen z.2)
    have f1 : zd.map (·.1) = xs := List.map_fst_zip (by omega)
    have f2 : zd.map (·.2) = ws.map tIs := List.map_snd_zip (by omega)
    have g1 : (zd.map g).map (·.1) = xs := by rw [List.map_map]; exact f1
    have g2 : (zd.map g).map (·.2) = (ws.map tIs).map kLen := by rw [List.map_map, ← f2, List.map_map]; rfl
    have mem := rx2.zip_mem
    have kls : ∀ d ∈ (ws.map tIs).map kLen, ∃ w, d = kLen (tIs w) := fun d hd => by
      obtain ⟨d1, h1, rfl⟩ := List.mem_map.mp hd
      obtain ⟨w, h2, rfl⟩ := List.mem_map.mp h1
      exact ⟨w, rfl⟩
    have lz : (zd.map g).length = ws.length := by
      rw [List.length_map]
      have : zd.length = (ws.map tIs).length := by rw [← f2, List.length_map]
      rw [this, List.length_map]
    obtain ⟨its, rv, hli, _⟩ := I2.list (SqL.of ha2)
    have rv' : Vals ((zd.map g).map (·.1)) its := by rw [g1]; exact rv
    refine PySem.W.sorted_key_data (b := false) (R := fun u (z : V × PyData) => RelV z.1 u) (bs := zd.map g) (Prod.snd : V × PyData → PyData) hli.isList (each_vals rv') (by rw [g2]; exact allAlike_kl kls) (by rw [g2]; exact sortable_kl kls) (by rw [lz]; exact lim_le hl) (fun x hx => ?_) (PyProof.Rows.ksk_s1 _ _) (fun _ => PyProof.Rows.ksk_l1 _ _) (fun _ => PyProof.Rows.ksk_t1 _ _) (fun u x hx hz h tk kp => ?_) fun out co h' tk kp fr0 hD ho eo => ?_
    · obtain ⟨z0, hz0, rfl⟩ := List.mem_map.mp hx
      have hz2 : z0.2 ∈ ws.map tIs := by rw [← f2]; exact List.mem_map.mpr ⟨z0, hz0, rfl⟩
      obtain ⟨w, _, hw2⟩ := List.mem_map.mp hz2
      have hu := hr.units
      have : (kLen z0.2).depth ≤ 10 := by rw [← hw2]; exact depth_kl w
      show X.A.units + 2 + (kLen z0.2).depth < cLine
      omega
    · obtain ⟨z0, hz0, rfl⟩ := List.mem_map.mp hz
      have hz2 : z0.2 ∈ ws.map tIs := by rw [← f2]; exact List.mem_map.mpr ⟨z0, hz0, rfl⟩
      obtain ⟨w, hwm, hw2⟩ := List.mem_map.mp hz2
      have hrl := mem z0 hz0
      rw [← hw2] at hrl
      obtain ⟨b, ys, eb, hb1, hb2⟩ := hrl.tupE
      have hx : RelV z0.1 u := hx
      rw [eb] at hx
      obtain rfl : u = Value.ref b := hx
      have hys : ys = w.map V.int := hb2.ints_v
      subst hys
      have I3 : L2.Inv X pins σ H2 { s2 with heap := h, toks := tk } := I2.kept kp
      obtain ⟨us, r3, t3, z3⟩ := I3.tuple (hK ▸ (wo_sub _ _).st hb1)
      have hsz : us.toArray.size = w.length := by rw [List.size_toArray, ← r3.length, List.length_map]
      have rd : Reads h (.ref b) (.tuple (w.map PyData.int)) [] := by
        obtain ⟨o, ho, hc, n, hd⟩ := t3
        exact .tuple ho hc hd (reads_ints r3)
      have q := kf_turn I3 (hr.mono hj) (kp _ _ hf) hco hml t3 (by rw [hsz]; have := hw w hwm; omega) rd (by rw [List.length_map, hsz])
      show wpAny _ _ _ (KeyPure (kLen z0.2) _) _ _
      rw [← hw2, kLen_tI]
      rw [hsz] at q
      exact q
    · have vo := vals_each eo
      have e1 : ((zd.map g).mergeSort (dataLe false (Prod.snd : V × PyData → PyData))).map (·.1) = (zd.mergeSort (dataLe false fun z : V × D => kLen z.2)).map (·.1) := by
        rw [← PySem.W.sort_maps (r := dataLe false fun z : V × D => kLen z.2) g (fun a _ b _ => rfl), List.map_map]
        rfl
      have e2 : (ws.map tIs).mergeSort (dataLe false kLen) = (zd.mergeSort (dataLe false fun z : V × D => kLen z.2)).map (·.2) := by
        have q := PySem.W.sort_maps (r := dataLe false fun z : V × D => kLen z.2) (s := dataLe false kLen) (l := zd) (fun z : V × D => z.2) (fun a _ b _ => rfl)
        rw [f2] at q
        exact q.symm
      rw [e1] at vo
      rw [e2] at hR
      have hlen : ((zd.mergeSort (dataLe false fun z : V × D => kLen z.2)).map (·.1)).length ≤ sizeLine := by
        rw [List.length_map, List.length_mergeSort]
        have : zd.length = ws.length := by rw [← lz, List.length_map]
        rw [this]; exact lim_le hl
      refine ⟨.ref _, upd H2 (s2.heap.objs.size + 1) (.lst ((zd.mergeSort (dataLe false fun z : V × D => kLen z.2)).map (·.1))), I2.laid (t' := tk) kp (Nat.le_succ _) ⟨hlen, out, co, vo, hD⟩, rfl, ?_⟩
      have rk : Rep c (st.at k) σ H2 := rp2
      exact fin _ k hR _ _ (NewL.mk' rk (ad1.trans ad2) (RlA.of_zip fun z hz => mem z (List.mem_mergeSort.mp hz)) (I2.hok.fresh (Nat.le_succ _)))
end
end DL
set_option maxHeartbeats 1000000
namespace DL
open PySem L2
open PySem.W (Frag)
end DL
set_option maxHeartbeats 1000000
namespace BW
open PySem L2 DL
abbrev sV (BC : Addr) (T : Mat) (w v : List Int) (x5 x6 x7 x8 x9 x10 x11 x12 : Sl) : List Sl := [.mst, .dat (bnd BC T), .dat (lM T), .dat (tI w), .dat (tI v), x5, x6, x7, x8, x9, x10, x11, x12]
end BW
set_option maxHeartbeats 1000000
namespace BW
open PySem L2 DL
section
variable {BC : Addr} {DD : DEnds} {T : Mat} {w v u : List Int} {X : List Addr} {k : Nat} {x2 x3 x4 x5 x6 x7 x8 x9 x10 x11 x12 : Sl}
abbrev T17 : Mat := [[1, 3], [3, 1]]
end
end BW
set_option maxHeartbeats 1000000
namespace BW
open PySem L2 DL
open PySem.W (dataLe AllAlike Sortable)
def chs : Nat → List (List Int)
  | 0 => [[]]
  | n + 1 => chs n ++ (chs n).map fun c => c ++ [(n : Int) + 1]
theorem chs_len : ∀ n, (chs n).length = 2 ^ n
  | 0 => rfl
  | n + 1 => by
    show (chs n ++ (chs n).map fun c => c ++ [(n : Int) + 1]).length = _
    rw [List.length_append, List.length_map, chs_len n, Nat.pow_succ]; omega
theorem chs_wd : ∀ (n : Nat), ∀ c ∈ chs n, Wd n c ∧ c.length ≤ n
  | 0, c, h => by
    rw [List.mem_singleton.mp h]
    exact ⟨fun a ha => (nomatch ha), Nat.le_refl _⟩
  | n + 1, c, h => by
    rcases List.mem_append.mp h with h | h
    · obtain ⟨a, b⟩ := chs_wd n c h
      exact ⟨fun z hz => by have := a z hz; omega, by omega⟩
    · obtain ⟨d, hd, rfl⟩ := List.mem_map.mp h
      obtain ⟨a, b⟩ := chs_wd n d hd
      refine ⟨fun z hz => ?_, by rw [List.length_append]; show d.length + 1 ≤ _; omega⟩
      rcases List.mem_append.mp hz with hz | hz
      · have := a z hz; omega
      · rw [List.mem_singleton.mp hz]; omega
def chD (n : Nat) : List D := ((chs n).map DL.tIs).mergeSort (dataLe false kLen)
theorem pow6 {n : Nat} (h : n ≤ 6) : 2 ^ n ≤ 64 := by
  have : (2 : Nat) ^ n ≤ 2 ^ 6 := Nat.pow_le_pow_right (by decide) h
  omega
def sp_fewer_first : DSp := fun ds k R => ∃ ws : List (List Int), ds = [.lst (ws.map DL.tIs)] ∧ ws.length ≤ lim ∧ (∀ w ∈ ws, w.length ≤ 1000) ∧ R (.lst ((ws.map DL.tIs).mergeSort (dataLe false kLen))) k
def sp_choices_of (BC : Addr) : DSp := fun ds k R => ∃ T, ds = [bnd BC T] ∧ Tab T ∧ R (.tup (chD T.length)) k
abbrev tA_fewer_first (BC : Addr) (K : PySem.W.Frag) : DS := (dRet (dFr (dSortLen (dVar 0))))
abbrev tA_choices_of (BC : Addr) (K : PySem.W.Frag) : DS := (dSeq (dSet 1 (dFr (dLs (dCons (dTup dNil) dNil))))
  (dSeq (dFor (iR2 (dC (.int 1)) (dOp oAdd (dLenO BC (sp_len_Bonds BC) (dVar 0)) (dC (.int 1)))) (dgN 2) (dSet 1 (dOp oAdd (dVar 1) (dFr (dLc (iLst (dVar 1)) (dgN 3) dY (dTup (dStar (dVar 3) (dCons (dVar 2) dNil))) [3])))))
  (dRet (dTupOf (dCallT sp_fewer_first (dCons (dVar 1) dNil))))))
theorem rA_fewer_first (BC : Addr) (K : PySem.W.Frag) (X : List Addr) (ds : List D) (k : Nat) (R : D → Nat → Prop) (h : sp_fewer_first ds k R) : tA_fewer_first BC K (En R) (St0 false 1 ds X k) := by
  obtain ⟨ws, rfl, h1, h2, h⟩ := h
  exact fun X' => ⟨_, rfl, ws, rfl, h1, h2, h⟩
theorem ext_step {n : Nat} {ws : List (List Int)} {j : Nat} {x : D} {acc : List D} {a : Int} (hx : (ws.map DL.tIs)[j]? = some x) (e : acc = ((ws.take j).map fun c => c ++ [a]).map DL.tIs) : ∃ c, c ∈ ws ∧ x = DL.tIs c ∧ acc ++ [D.tup (c.map D.int ++ [D.int a])] = ((ws.take (j + 1)).map fun c => c ++ [a]).map DL.tIs := by
  rw [List.getElem?_map] at hx
  obtain ⟨c, hc, rfl⟩ := Option.map_eq_some_iff.mp hx
  refine ⟨c, List.mem_of_getElem? hc, rfl, ?_⟩
  rw [e, List.take_succ, hc]
  show _ = List.map DL.tIs (List.map (fun c => c ++ [a]) (List.take j ws ++ [c]))
  rw [List.map_append, List.map_append]
  show _ ++ [D.tup (c.map D.int ++ [D.int a])] = _ ++ [D.tup ((c ++ [a]).map D.int)]
  rw [List.map_append]
  rfl
theorem rA_choices_of (BC : Addr) (K : PySem.W.Frag) (X : List Addr) (ds : List D) (k : Nat) (R : D → Nat → Prop) (h : sp_choices_of BC ds k R) : tA_choices_of BC K (En R) (St0 false 4 ds X k) := by
  obtain ⟨T, rfl, ht, h⟩ := h
  have hT := ht.hi
  refine ⟨by show 0 ≤ lim; decide, by show 1 ≤ lim; decide, ?_⟩
  refine ⟨_, rfl, ⟨_, _, rfl⟩, T, rfl, hT, T.length, rfl, by omega, _, _, rfl, rfl, ⟨by omega, by omega, by omega, by omega⟩, ?_⟩
  have en : ((T.length : Int) + 1 - 1).toNat = T.length := by omega
  rw [en]
  refine ⟨fun i s' => ∃ (x2 x3 : Sl), i ≤ T.length ∧ s' = ⟨X, [.dat (bnd BC T), .dat (.lst ((chs i).map DL.tIs)), x2, x3], k⟩, ⟨_, _, Nat.zero_le _, rfl⟩, ?_, ?_⟩
  · rintro i d s' hd ⟨x2, x3, hi, rfl⟩
    obtain ⟨hj, rfl⟩ := rngD_at hd
    have l64 := pow6 (n := i) (by omega)
    refine ⟨_, rfl, _, rfl, _, rfl, by rw [List.length_map, chs_len]; exact l10k (by omega), fun p hp => ⟨fun j acc k' => k' = k ∧ acc = (((chs i).take j).map fun c => c ++ [1 + (i : Int)]).map DL.tIs, ⟨rfl, rfl⟩, ?_, ?_⟩⟩
    · rintro j x acc k' hx ⟨rfl, e⟩ _
      obtain ⟨c, hc, rfl, e2⟩ := ext_step (n := i) (a := 1 + (i : Int)) hx e
      have b := (chs_wd i c hc).2
      refine iteT ⟨_, rfl, _, rfl, _, rfl, ?_, rfl, e2⟩
      show (c.map D.int ++ [_]).length ≤ lim
      rw [List.length_append, List.length_map]
      exact l10k (by show c.length + 1 ≤ _; omega)
    · rintro acc k' ⟨rfl, rfl⟩ _
      rw [List.length_map, List.take_length]
      refine ⟨?_, .dat (.int (1 + (i : Int))), x3, by omega, ?_⟩
      · rw [List.length_map, List.length_map, List.length_map, chs_len]
        exact l10k (by omega)
      · have e : (chs i).map DL.tIs ++ ((chs i).map fun c => c ++ [1 + (i : Int)]).map DL.tIs = (chs (i + 1)).map DL.tIs := by
          show _ = ((chs i) ++ (chs i).map fun c => c ++ [(i : Int) + 1]).map DL.tIs
          rw [List.map_append, Int.add_comm 1 (i : Int)]
        show (⟨X, [.dat (bnd BC T), .dat (.lst ((chs i).map DL.tIs ++ ((chs i).map fun c => c ++ [1 + (i : Int)]).map DL.tIs)), .dat (.int (1 + (i : Int))), x3], k'⟩ : S) = _
        rw [e]
  · rintro s' ⟨x2, x3, hi, rfl⟩
    rw [rngD_len]
    have l64 := pow6 (n := T.length) (by omega)
    intro X'
    exact ⟨_, rfl, chs T.length, rfl, by rw [chs_len]; exact l10k (by omega), fun w hw => by have := (chs_wd _ w hw).2; omega, _, rfl, h⟩
def t_fewer_first (BC : Addr) (K : PySem.W.Frag) : DS := tA_fewer_first BC K
theorem r_fewer_first (BC : Addr) (K : PySem.W.Frag) (X : List Addr) (ds : List D) (k : Nat) (R : D → Nat → Prop) (h : sp_fewer_first ds k R) : t_fewer_first BC K (En R) (St0 false 1 ds X k) := rA_fewer_first BC K X ds k R h
def t_choices_of (BC : Addr) (K : PySem.W.Frag) : DS := tA_choices_of BC K
theorem r_choices_of (BC : Addr) (K : PySem.W.Frag) (X : List Addr) (ds : List D) (k : Nat) (R : D → Nat → Prop) (h : sp_choices_of BC ds k R) : t_choices_of BC K (En R) (St0 false 4 ds X k) := rA_choices_of BC K X ds k R h
end BW
set_option maxHeartbeats 1000000
namespace BW
open PySem L2 DL
def adj (T : Mat) (a b : Int) : Bool := decide (at2 T (ix a) (ix b) ≠ 2)
inductive Rch (T : Mat) (c : List Int) (a : Int) : Int → Prop
  | refl : Rch T c a a
  | step {x y : Int} : Rch T c a x → y ∈ c → adj T y x = true → Rch T c a y
def grow (T : Mat) (c S : List Int) : List Int := c.filter fun y => S.contains y || S.any fun x => adj T y x
def grown (T : Mat) (c : List Int) : Nat → List Int → List Int
  | 0, S => S
  | n + 1, S => grown T c n (grow T c S)
def pc (T : Mat) (c : List Int) (a : Int) : List Int := grown T c c.length (c.filter fun x => x == a)
theorem adj_symm {T : Mat} (ht : Tab T) {a b : Int} (ha : 1 ≤ a ∧ a ≤ T.length) (hb : 1 ≤ b ∧ b ≤ T.length) : adj T a b = adj T b a := by
  unfold adj
  rw [ht.sy (ix a) (ix b) (by show (a - 1).toNat < _; omega) (by show (b - 1).toNat < _; omega)]
theorem Rch.mem {T : Mat} {c : List Int} {a x : Int} (ha : a ∈ c) (r : Rch T c a x) : x ∈ c := by
  cases r with
  | refl => exact ha
  | step _ h _ => exact h
theorem Rch.trans {T : Mat} {c : List Int} {a x y : Int} (r : Rch T c a x) (q : Rch T c x y) : Rch T c a y := by
  induction q with
  | refl => exact r
  | step _ h1 h2 ih => exact .step ih h1 h2
theorem Rch.symm {T : Mat} (ht : Tab T) {c : List Int} (hw : Wd T.length c) {a x : Int} (ha : a ∈ c) (r : Rch T c a x) : Rch T c x a := by
  induction r with
  | refl => exact .refl
  | @step y z r h1 h2 ih =>
    have hy := r.mem ha
    refine Rch.trans (.step .refl hy ?_) ih
    rw [adj_symm ht (hw _ hy) (hw _ h1)]
    exact h2
theorem Rch.mono {T : Mat} {c d : List Int} (h : ∀ x ∈ c, x ∈ d) {a x : Int} (r : Rch T c a x) : Rch T d a x := by
  induction r with
  | refl => exact .refl
  | step _ h1 h2 ih => exact .step ih (h _ h1) h2
def Hng (T : Mat) (c : List Int) : Prop := ∃ a ∈ c, ∀ x ∈ c, Rch T c a x
theorem Hng.from {T : Mat} (ht : Tab T) {c : List Int} (hw : Wd T.length c) (h : Hng T c) {a x : Int} (ha : a ∈ c) (hx : x ∈ c) : Rch T c a x := by
  obtain ⟨b, hb, h⟩ := h
  exact ((h a ha).symm ht hw hb).trans (h x hx)
end BW
set_option maxHeartbeats 1000000
namespace DL
open PySem PySem.Spec PyProof.Rows L2
open PySem.W (Frag dataLe AllAlike Sortable EachIs alike alikeAll)
abbrev pyI (w : List Int) : PyData := .tuple (w.map .int)
abbrev leI : List Int → List Int → Bool := dataLe false pyI
theorem alike_pyI (a b : List Int) : alike (pyI a) (pyI b) = true := by
  show alikeAll (a.map .int) (b.map .int) = true
  exact PySem.W.alike_ints a b
theorem RlA.tups {K : Frag} {H : Hp} : ∀ {ws : List (List Int)} {vs : List V}, RlA K H vs (ws.map fun w => D.tup (w.map .int)) → ∃ ks : List (Addr × List Int), vs = ks.map (fun p => V.ref p.1) ∧ ws = ks.map (·.2) ∧ ∀ p ∈ ks, SqT K H p.1 (p.2.map V.int)
  | [], _, .nil => ⟨[], rfl, rfl, fun p hp => nomatch hp⟩
  | w :: ws, _, .cons h t => by
    obtain ⟨ks, e1, e2, h3⟩ := RlA.tups t
    obtain ⟨a, vs, rfl, h4, h5⟩ := h.tupE
    have e5 := RlA.ints_v h5
    subst e5
    exact ⟨(a, w) :: ks, by rw [e1]; rfl, by rw [e2]; rfl, fun p hp => by
      rcases List.mem_cons.mp hp with rfl | hp
      · exact h4
      · exact h3 p hp⟩
end DL
set_option maxHeartbeats 1600000
namespace DL
open PySem PySem.Spec PyProof.Rows L2 PpSet
open PySem.W (Frag)
end DL
set_option maxHeartbeats 1600000
namespace DL
open PySem PySem.Spec PyProof.Rows L2
open PySem.W (Frag)
end DL
namespace DL
open PySem L2
open PySem.W (Frag)
theorem rev_at {n i : Nat} {d : D} (h : (rngD 0 n).reverse[i]? = some d) : i < n ∧ d = .int ((n : Int) - 1 - i) := by
  have hi : i < n := by
    have := (List.getElem?_eq_some_iff.mp h).1
    rw [List.length_reverse, rngD_len] at this
    exact this
  refine ⟨hi, ?_⟩
  rw [List.getElem?_reverse (by rw [rngD_len]; exact hi), rngD_len] at h
  obtain ⟨h1, rfl⟩ := rngD_at h
  congr 1
  omega
theorem Yl.rev {c : C} {s0 : S} {Hs : Hp} {n : Nat} : Yl c s0 Hs (Itc ((n : Int) - 1) (-1) n) (rngD 0 n).reverse := fun i s σ H rp _ => by
  refine ⟨fun h => by rw [List.length_reverse, rngD_len] at h; exact h, fun d hd => ?_⟩
  obtain ⟨hi, rfl⟩ := rev_at hd
  refine ⟨hi, fun x H' ⟨e1, e2⟩ => ?_⟩
  subst e1 e2
  refine ⟨rp, AdvE.refl, ?_⟩
  rw [show (n : Int) - 1 + (i : Nat) * (-1) = (n : Int) - 1 - i by omega]
  exact .int _
end DL
namespace DL
open PySem L2
open PySem.W (Frag)
abbrev dTupRg (t u : DE) : DE := fun s Q => t s fun d k => u (s.at k) fun e k' => ∃ i j, d = .int i ∧ e = .int j ∧ RgOk i j ∧ Q (.tup (rngD i (j - i).toNat)) k'
section
variable {X : Cx} {c : C}
theorem pd_tupRg2 {a b : Expr} {t u : DE} {p pos p2 pos2 : Pos} (hc : X.calm = true) (hm : X.mg "range" = none) (hm2 : X.mg "tuple" = none) (ha : PE X a (LE c t)) (hb : PE X b (LE c u)) (hg : Gl X "range" := by rfl) (hg2 : Gl X "tuple" := by rfl)
    (na : starEach [a, b] X.env = (false, eval a X.env) :: starEach [b] X.env := by rfl) (nb : starEach [b] X.env = (false, eval b X.env) :: starEach [] X.env := by rfl) (hp : (backTo pos (starEach [b] X.env)).any (·.1) = false := by rfl)
    (hs2 : starEach [.Call (.Name "range" p) [a, b] [] pos] X.env = (false, eval (.Call (.Name "range" p) [a, b] [] pos) X.env) :: starEach [] X.env := by rfl) :
    PE X (.Call (.Name "tuple" p2) [.Call (.Name "range" p) [a, b] [] pos] [] pos2) (LE c (dTupRg t u)) :=
  (pe_tupRg hc hg2 hm2 (prg_2 hg hm ha hb na nb hp) hs2).weak fun σ H Q ⟨s, R, rp, q, f⟩ => ⟨s, _, rp, q, fun d k hq v H1 r1 a1 e1 => ⟨s.at k, _, r1, hq, fun e k2 ⟨i, j, hd, he, hr, hR⟩ w H2 r2 a2 e2 => by
    subst hd he
    cases (e1.mono a2.sub).intE
    cases e2.intE
    refine ⟨i, j, rfl, rfl, hr, fun y hy => ?_⟩
    have n := r2.new (o := .tup (rgV i j)) hy
    exact f _ k2 hR _ _ n.1 (a1.trans (a2.trans n.2)) (.tup (SqT.of (r2.at_new hy)) (rng_rl i j))⟩⟩
end
end DL
set_option maxHeartbeats 1000000
namespace BW
open PySem L2 DL
def ltrs (n : Nat) : List Int := (List.range n).map fun (i : Nat) => (1 : Int) + i
def sp_all_letters (BC : Addr) : DSp := fun ds k R => ∃ T, ds = [bnd BC T] ∧ Tab T ∧ R (tI (ltrs T.length)) k
abbrev t_all_letters (BC : Addr) : DS := (dRet (dTupRg (dC (.int 1)) (dOp oAdd (dLenO BC (sp_len_Bonds BC) (dVar 0)) (dC (.int 1)))))
theorem ltrs_map (n : Nat) : (ltrs n).map D.int = rngD 1 n := by unfold ltrs rngD; rw [List.map_map]; rfl
theorem r_all_letters (BC : Addr) (X : List Addr) (ds : List D) (k : Nat) (R : D → Nat → Prop) (h : sp_all_letters BC ds k R) : t_all_letters BC (En R) (St0 false 1 ds X k) := by
  obtain ⟨T, rfl, ht, h⟩ := h
  have hT := ht.hi
  intro X
  refine ⟨_, rfl, ⟨_, _, rfl⟩, T, rfl, hT, T.length, rfl, by omega, 1, _, rfl, rfl, ?_, ?_⟩
  · exact ⟨by omega, by omega, by omega, by omega⟩
  · rw [show ((T.length : Int) + 1 - 1).toNat = T.length by omega, ← ltrs_map]
    exact h
end BW
set_option maxHeartbeats 1000000
namespace BW
open PySem L2 DL
open PySem.W (dataLe AllAlike Sortable)
theorem asc_nodup {c : List Int} (h : c.Pairwise (· < ·)) : c.Nodup := h.imp fun h e => by omega
end BW
set_option maxHeartbeats 1000000
namespace BW
open PySem L2 DL
open PySem.W (dataLe AllAlike Sortable dataLt rowLt)
theorem leI_eq (a b : List Int) : leI a b = decide (a ≤ b) := by
  show (!dataLt (.tuple (b.map .int)) (.tuple (a.map .int))) = _
  rw [PySem.W.dataLt_tuple]
  show (!rowLt (b.map .int) (a.map .int)) = _
  rw [PySem.W.dataLt_ints]
  by_cases h : b < a
  · have h' : ¬ a ≤ b := fun r => List.not_lt.mpr r h
    simp [h, h']
  · have h' : a ≤ b := List.not_lt.mp h
    simp [h, h']
theorem ltrs_mem {n : Nat} {a : Int} : a ∈ ltrs n ↔ 1 ≤ a ∧ a ≤ n := by
  unfold ltrs
  rw [List.mem_map]
  constructor
  · rintro ⟨i, hi, rfl⟩
    have := List.mem_range.mp hi
    omega
  · rintro ⟨h1, h2⟩
    exact ⟨(a - 1).toNat, List.mem_range.mpr (by omega), by omega⟩
theorem ltrs_asc (n : Nat) : (ltrs n).Pairwise (· < ·) := by
  unfold ltrs
  exact List.pairwise_map.mpr (List.pairwise_lt_range.imp fun h => by omega)
end BW
namespace BW
open PySem
theorem wd_sub {n : Nat} {x y : List Int} (h : x.Sublist y) (hy : Wd n y) : Wd n x := fun a ha => hy a (h.subset ha)
theorem exR {T : Mat} (ht : Tab T) {x : List Int} (hx : Wd T.length x) {i : Nat} (hi : i < T.length) (hn : (row T x).getD i 0 < 0) : ∃ z : List Int, z.Sublist x ∧ row T (x ++ [(i : Int) + 1]) = row T z := by
  have C := car_of ht
  have l := lets_of hx
  rw [row_hv hx hi] at hn
  obtain ⟨u, b, v, e, h⟩ := TT.exch2 C hi l (TT.hv_neg_iff C hi l hn)
  obtain ⟨U, R, rfl, rfl, e2⟩ := List.map_eq_append_iff.mp e
  obtain ⟨B, V, rfl, rfl, rfl⟩ := List.map_eq_cons_iff.mp e2
  have hs : (U ++ V).Sublist (U ++ B :: V) := (List.Sublist.refl U).append (List.sublist_cons_self B V)
  refine ⟨U ++ V, hs, ?_⟩
  have wz : Wd T.length (U ++ V) := wd_sub hs hx
  have wx : Wd T.length ((U ++ B :: V) ++ [(i : Int) + 1]) := wd_app hx (wd_one hi)
  refine (row_eq_iff wx wz).mpr ?_
  refine TT.Rw.of_map fun y hy => ?_
  have := h y hy
  have e3 : ((U ++ B :: V) ++ [(i : Int) + 1]).map ix = (U ++ B :: V).map ix ++ [i] := by rw [List.map_append]; simp [ix_succ]
  rw [e3, this, List.map_append]
end BW
namespace BW
open PySem
theorem alt_all {a b c : Int} {n : Nat} (h : c ∈ alt a b n) : c = a ∨ c = b := by
  obtain ⟨k, _, rfl⟩ := List.mem_map.mp h
  by_cases z : k % 2 = 0
  · exact .inl (if_pos z)
  · exact .inr (if_neg z)
theorem row_altX {T : Mat} (ht : Tab T) {w : List Int} {i j : Nat} (hi : i < T.length) (hj : j < T.length) (ne : i ≠ j) (h : 0 < at2 T i j) : row T (w ++ alt ((i : Int) + 1) ((j : Int) + 1) (at2 T i j).toNat) = row T (w ++ alt ((j : Int) + 1) ((i : Int) + 1) (at2 T i j).toNat) := by
  have q := pl_alt ht (r := row T w) (row_length T w) hi hj ne h
  unfold pl at q
  unfold row at q ⊢
  rw [List.foldl_append, List.foldl_append]
  exact q
theorem sub_short {T : Mat} (ht : Tab T) : ∀ (n : Nat) {x : List Int}, x.length ≤ n → Wd T.length x → ∃ z, z.Sublist x ∧ Sh T z ∧ row T z = row T x
  | 0, x, hx, hw => by
    have := List.length_eq_zero_iff.mp (Nat.le_zero.mp hx)
    subst this
    obtain ⟨k, hk, h2⟩ := LN.has hw
    have e : k = 0 := by simpa using h2
    subst e
    exact ⟨[], List.Sublist.refl _, hk, rfl⟩
  | n + 1, x, hx, hw => by
    rcases snoc_cases hw with rfl | ⟨y, i, hi, hy, rfl⟩
    · exact sub_short ht n (Nat.zero_le _) hw
    · have ly : y.length ≤ n := by simp at hx; exact hx
      obtain ⟨z, z1, z2, z3⟩ := sub_short ht n ly hy
      have wz := wd_sub z1 hy
      have m := LN.more ht wz z2 hi
      have er : row T (z ++ [(i : Int) + 1]) = row T (y ++ [(i : Int) + 1]) := row_app z3
      by_cases c : ((i : Int) + 1) ∈ fall (row T z)
      · obtain ⟨q, q1, q2⟩ := exR ht wz hi ((mem_fall (by rw [row_length]; exact hi)).mp c)
        have l1 := q1.length_le
        have l2 := z1.length_le
        obtain ⟨r, r1, r2, r3⟩ := sub_short ht n (by omega) (wd_sub q1 wz)
        exact ⟨r, ((r1.trans q1).trans z1).trans (List.sublist_append_left _ _), r2, r3.trans (q2.symm.trans er)⟩
      · rw [if_neg c] at m
        refine ⟨z ++ [(i : Int) + 1], z1.append (List.Sublist.refl _), ?_, er⟩
        show LN T _ _
        rw [List.length_append, List.length_singleton]
        exact m
end BW
namespace BS
open PySem PySem.Spec PyProof.Rows L2
def Msk (m : Nat) : Prop := ∃ e, 3 ≤ e ∧ e ≤ 13 ∧ m + 1 = 2 ^ e ∧ e % 2 = 1
theorem Msk.odd {m : Nat} (h : Msk m) : m % 2 = 1 := by
  obtain ⟨e, h1, _, h2, _⟩ := h
  obtain ⟨e, rfl⟩ : ∃ k, e = k + 1 := ⟨e - 1, by omega⟩
  rw [Nat.pow_succ] at h2
  omega
theorem Msk.le {m : Nat} (h : Msk m) : m ≤ 8191 := by
  obtain ⟨e, _, h1, h2, _⟩ := h
  have := Nat.pow_le_pow_right (n := 2) (by decide) h1
  have e2 : (2 : Nat) ^ 13 = 8192 := by decide
  omega
end BS
namespace BS
open PySem PySem.Spec PyProof.Rows L2
structure Tb (t : SetTable) (hs : List Int) : Prop where
  up : Ris t.place.toList
  nd : t.dummies = #[]
  len : t.place.toList.length = hs.length
  msk : Msk t.mask
  top : ∀ x ∈ t.place.toList, x ≤ t.mask
  found : ∀ (i : Nat) (g : Int) (j : Nat), hs[i]? = some g → t.place.toList[i]? = some j → ∃ k, way t.mask g k = j ∧ ∀ q, q < k → way t.mask g q ∈ t.place.toList
theorem Tb.ahead {t : SetTable} {hs : List Int} (T : Tb t hs) {g : Int} {K i j : Nat} (empty : way t.mask g K ∉ t.place.toList) (hi : hs[i]? = some g) (hj : t.place.toList[i]? = some j) : ∃ q, q < K ∧ way t.mask g q = j := by
  obtain ⟨q, e, b⟩ := T.found i g j hi hj
  have ne : q ≠ K := fun z => by
    rw [← z, e] at empty
    exact empty (List.mem_of_getElem? hj)
  have nl : ¬ K < q := fun z => empty (b K z)
  exact ⟨q, by omega, e⟩
end BS
set_option maxHeartbeats 1000000
namespace BS
open PySem PySem.Spec PyProof.Rows L2
structure SB (P : Program) (w : World) (h : Heap) (a : Addr) (L : List (Addr × List Int)) (es : Array (Int × Value)) (ep : Nat) (t : SetTable) : Prop where
  obj : ∃ o, h.get? a = some o ∧ o.ExactSet ∧ o.data = .set es ep t
  ent : es.toList = rowsOf P w L
  tbl : Tb t (L.map fun p => thash P w p.2)
  once : (L.map (·.2)).Nodup
  keys : ∀ p ∈ L, IsT P w h p.2 p.1
  pl : t.plain = true
  ld : w.params.followText "set-order" = true ∨ t.led = true
  roomy : L.length * 5 < t.mask * 3
  small : L.length < 4096
section
variable {P : Program} {w : World} {A : Around} {E : Value → Shared → Prop} {s : Shared} {a : Addr} {L : List (Addr × List Int)} {es : Array (Int × Value)} {ep : Nat} {t : SetTable}
theorem ent_size (e : es.toList = rowsOf P w L) : es.size = L.length := by
  have := congrArg List.length e
  unfold rowsOf at this
  rwa [Array.length_toList, List.length_map] at this
theorem fits_of {hs : List Int} (T : Tb t hs) {n : Nat} (e : n = hs.length) (few : n ≤ t.mask) : t.fits n = true := by
  have l := T.len
  rw [Array.length_toList] at l
  unfold SetTable.fits SetTable.fill
  rw [T.nd, Bool.and_eq_true, beq_iff_eq, decide_eq_true_eq]
  exact ⟨by rw [l, e], by show t.place.size + 0 ≤ t.mask; omega⟩
theorem SB.fit (S : SB P w s.heap a L es ep t) : t.fits es.size = true := by
  have := S.roomy
  exact fits_of S.tbl (by rw [List.length_map]; exact ent_size S.ent) (by rw [ent_size S.ent]; omega)
theorem SB.get (S : SB P w s.heap a L es ep t) {i : Nat} {p : Addr × List Int} (h : L[i]? = some p) : es[i]? = some (thash P w p.2, Value.ref p.1) := by
  rw [← Array.getElem?_toList, S.ent]
  unfold rowsOf
  rw [List.getElem?_map, h]; rfl
theorem SB.way_of (S : SB P w s.heap a L es ep t) {i : Nat} {p : Addr × List Int} (h : L[i]? = some p) : ∃ j, t.place.toList[i]? = some j := by
  have l := S.tbl.len
  rw [List.length_map] at l
  exact ⟨_, List.getElem?_eq_getElem (by rw [l]; exact (List.getElem?_eq_some_iff.mp h).1)⟩
abbrev st0 (t : SetTable) (g : Int) : SetTable.Probe := runAt t.mask (SetTable.bits g % (t.mask + 1)) (SetTable.bits g)
theorem no_dummy (m : Nat) : ∀ (n : Nat) {p : SetTable.Probe}, p.dummy = none → (nth m p n).dummy = none
  | 0, _, h => h
  | n + 1, p, h => no_dummy m n (p := adv m p) (by unfold adv; split <;> exact h)
theorem look (S : SB P w s.heap a L es ep t) {x : Addr} {k : List Int} (hx : IsT P w s.heap k x) (hu : A.units < cLine) {K : Nat} (Kf : K < 10 * SetTable.turns t.mask) (gap : way t.mask (thash P w k) K ∉ t.place.toList) (full : ∀ q, q < K → way t.mask (thash P w k) q ∈ t.place.toList) {Q : SetFound → Shared → Prop}
    (there : k ∈ L.map (·.2) → Q (.there none) s) (away : k ∉ L.map (·.2) → Q (.free (way t.mask (thash P w k) K) false) s) :
    ∀ (n c : Nat) (stand : Option SetTable.Probe), stand.getD (t.probeStart (thash P w k)) = nth t.mask (st0 t (thash P w k)) c → c ≤ K → K - c < n → (∀ (q i : Nat) (p : Addr × List Int), q < c → t.place.toList[i]? = some (way t.mask (thash P w k) q) → L[i]? = some p → p.2 ≠ k) →
      wpAny (model P w) A (setSearchFrom a (.ref x) (thash P w k) true n stand) Q E s
  | 0, c, _, _, _, hf, _ => absurd hf (Nat.not_lt_zero _)
  | n + 1, c, stand, hst, hc, hf, seen => by
    obtain ⟨o, ho, hex, hd⟩ := S.obj
    have shift : ∀ q, nth t.mask (nth t.mask (st0 t (thash P w k)) c) q = nth t.mask (st0 t (thash P w k)) (c + q) := fun q => (nth_add t.mask c _ q).symm
    have wsh : ∀ q, (nth t.mask (nth t.mask (st0 t (thash P w k)) c) q).j = way t.mask (thash P w k) (c + q) := fun q => congrArg SetTable.Probe.j (shift q)
    have hashAt : ∀ {i : Nat} {p : Addr × List Int}, L[i]? = some p → ((es[i]?.map (·.1)).getD 0) = thash P w p.2 := fun hp => by rw [S.get hp]; rfl
    have told := go_spec t S.tbl.up S.tbl.nd (fun i => (es[i]?.map (·.1)).getD 0) (thash P w k) (10 * SetTable.turns t.mask) (K - c) (nth t.mask (st0 t (thash P w k)) c) (no_dummy t.mask c rfl) (by omega)
      (fun q hq => by rw [wsh]; exact full _ (by omega)) (by rw [wsh, Nat.add_sub_cancel' hc]; exact gap)
    rw [setSearchFrom_succ]
    refine wpAny_bind (wpAny_setState_of ho hd S.fit ?_)
    dsimp only
    refine wp_if_neg (by unfold SetTable.gaveWay; rw [S.tbl.msk.odd]; decide) ?_
    try refine wpAny_bind (wpAny_pure ?_)
    rcases told with ⟨q, i, hq, hi, hh, before, pr⟩ | ⟨none_, pr⟩
    · -- an entry of this hash
      rw [show t.probe (fun i => (es[i]?.map (·.1)).getD 0) (thash P w k) (stand.getD (t.probeStart (thash P w k))) = some (.candidate (way t.mask (thash P w k) (c + q)) i (nth t.mask (st0 t (thash P w k)) (c + (q + 1)))) by rw [hst, ← wsh, ← shift]; exact pr]
      dsimp only
      rw [wsh] at hi
      have il : i < L.length := by
        have l := S.tbl.len
        rw [List.length_map] at l
        rw [← l]
        exact (List.getElem?_eq_some_iff.mp hi).1
      obtain ⟨p, hp⟩ : ∃ p, L[i]? = some p := ⟨_, List.getElem?_eq_getElem il⟩
      have pm := List.mem_of_getElem? hp
      have live : t.slot (way t.mask (thash P w k) (c + q)) = .live i := slot_live S.tbl.up hi
      have rest : wpAny (model P w) A (searchRest a (.ref x) (thash P w k) true n es t (way t.mask (thash P w k) (c + q)) i (nth t.mask (st0 t (thash P w k)) (c + (q + 1)))) Q E s := by
        unfold searchRest
        rw [S.get hp]
        dsimp only
        refine wpAny_bind (wpAny_holding (wpAny_eqBool_tuple hu (S.keys p pm) hx ?_))
        refine wpAny_bind (wpAny_setState_of ho hd S.fit ?_)
        dsimp only
        by_cases same : p.2 = k
        · exact wp_if_pos (by simp [same]) (wpAny_pure (there (List.mem_map.mpr ⟨p, pm, same⟩)))
        · refine wp_if_neg (by simp [same]) ?_
          try refine wpAny_bind (wpAny_pure ?_)
          rw [sameMem]
          dsimp only
          simp only [if_true, live, S.get hp]
          refine wpAny_bind (wpAny_isSame_ref_self (wpAny_bind (wpAny_pure ?_)))
          simp only [if_true]
          refine wp_if_neg (by simp [same]) ?_
          refine look S hx hu Kf gap full there away n (c + (q + 1)) _ rfl (by omega) (by omega) fun q' i' p' hq' hi' hp' e => ?_
          by_cases c1 : q' < c
          · exact seen q' i' p' c1 hi' hp' e
          · by_cases c2 : q' < c + q
            · refine before (q' - c) i' (by omega) (by rw [wsh, show c + (q' - c) = q' by omega]; exact hi') ?_
              show ((es[i']?.map (·.1)).getD 0) = _
              rw [hashAt hp', e]
            · have : q' = c + q := by omega
              subst this
              have s2 := slot_live S.tbl.up hi'
              rw [live] at s2
              injection s2 with s2
              subst s2
              rw [hp] at hp'
              cases hp'
              exact same e
      by_cases hl : t.led = true
      · refine wp_if_neg (by simp [hl]) ?_
        try refine wpAny_bind (wpAny_pure ?_)
        exact rest
      · refine wp_if_pos (by simp [hl]) (wpAny_bind (seen_tup hx (fun y hy => ?_) ?_))
        · obtain ⟨z, hz, rfl⟩ := List.mem_map.mp hy
          have hz1 : z ∈ es.toList := by
            have : z ∈ es ∧ z.1 = thash P w k := by simpa using hz
            simpa using this.1
          rw [S.ent] at hz1
          obtain ⟨p2, hp2, rfl⟩ := List.mem_map.mp hz1
          exact ⟨p2.2, p2.1, rfl, S.keys p2 hp2⟩
        · refine wp_if_neg (by decide) ?_
          try refine wpAny_bind (wpAny_pure ?_)
          exact rest
    · -- the empty slot
      rw [show t.probe (fun i => (es[i]?.map (·.1)).getD 0) (thash P w k) (stand.getD (t.probeStart (thash P w k))) = some (.empty (way t.mask (thash P w k) K) none) by
        have : way t.mask (thash P w k) K = (nth t.mask (nth t.mask (st0 t (thash P w k)) c) (K - c)).j := by rw [wsh, Nat.add_sub_cancel' hc]
        rw [hst, this]; exact pr]
      dsimp only
      refine wpAny_pure (away fun hm => ?_)
      obtain ⟨p, hp, e⟩ := List.mem_map.mp hm
      obtain ⟨i, il, ei⟩ := List.getElem_of_mem hp
      have hi : L[i]? = some p := by rw [List.getElem?_eq_getElem il, ei]
      obtain ⟨j, hj⟩ := S.way_of hi
      obtain ⟨q, q1, q2⟩ := S.tbl.ahead gap (i := i) (j := j) (by rw [List.getElem?_map, hi, ← e]; rfl) hj
      rw [← q2] at hj
      by_cases c1 : q < c
      · exact seen q i p c1 hj hi e
      · refine none_ (q - c) i (by omega) (by rw [wsh, show c + (q - c) = q by omega]; exact hj) ?_
        show ((es[i]?.map (·.1)).getD 0) = _
        rw [hashAt hi, e]
end
end BS
set_option maxHeartbeats 3200000
namespace BS
open PySem PySem.Spec PyProof.Rows L2
open PySem.W (Frag dataLe AllAlike Sortable EachIs alike alikeAll)
end BS
set_option maxHeartbeats 1000000
namespace DL
open PySem PySem.Spec PyProof.Rows L2 BS
open PySem.W (Frag dataLe AllAlike Sortable EachIs alike alikeAll)
end DL
set_option maxHeartbeats 1000000
set_option maxHeartbeats 1000000
namespace BW
open PySem L2 DL
def kp (T : Mat) (y : List Int) : Nat → List Int → List Int → List Int × List Int
  | 0, r, q => (r, q)
  | n + 1, r, q => if r.getD (ix (y.getD n 0)) 0 < 0 then kp T y n (press T r (ix (y.getD n 0))) ((n : Int) :: q) else kp T y n r q
abbrev kpt (T : Mat) (w v : List Int) : List Int × List Int := kp T (lw T v) (lw T v).length (row T w) []
end BW
namespace DL
open PySem L2
end DL
set_option maxHeartbeats 1000000
namespace BW
open PySem L2 DL
open PySem.W (dataLe)
def sp__law_likeE : DSp := fun ds k R => ∃ x, ds = [x, x] ∧ ShwO x ∧ R (.bl true) k
abbrev t__law_likeE : DS := (dRet (dOp oEq (dRepA (dVar 0)) (dRepA (dVar 1))))
theorem r__law_likeE (X : List Addr) (ds : List D) (k : Nat) (R : D → Nat → Prop) (h : sp__law_likeE ds k R) : t__law_likeE (En R) (St0 false 2 ds X k) := by
  obtain ⟨x, rfl, sh, h⟩ := h
  intro X'
  refine ⟨_, rfl, sh, _, rfl, sh, ?_⟩
  show R (.bl (decide _)) k
  rw [decide_eq_true rfl]
  exact h
end BW
set_option maxHeartbeats 1000000
namespace BW
open PySem L2 DL
open PySem.W (dataLe AllAlike Sortable)
def DueW (x u : D) : Prop := (x = tooGreat 60 ∧ u = .tup [.str "great", .int 60]) ∨ ∃ e, x = badWord e ∧ (e = .non ∨ ∃ i : Int, e = .int i) ∧ u = .tup [.str "word", e]
def HB (x u : D) : Prop := DueW x u ∨ ∃ c, x = badChoice c ∧ u = .tup [.str "choice", c]
end BW
set_option maxHeartbeats 1000000
namespace BW
open PySem L2 DL
abbrev ll (T : Mat) (w : List Int) : Nat := (wd T 60 (row T w)).1.length
abbrev T3x : Mat := [[1, 3], [3, 1]]
theorem kp1 : decide ((kpt T3x [1] [2, 1]).1 = one T3x) = true := by decide +kernel
theorem kp2 : decide ((kpt T3x [1, 2] [2, 1]).1 = one T3x) = false := by decide +kernel
theorem kp3 : decide ((kpt T3x [1, 2, 1] [2, 1, 2]).1 = one T3x) = true := by decide +kernel
theorem kp4 : (decide ((kpt T3x [2, 1] [1, 2, 1]).1 = one T3x) && decide (((wd T3x 60 (row T3x [2, 1])).1.length : Int) = ((wd T3x 60 (row T3x [1, 2, 1])).1.length : Int) - 1)) = true := by decide +kernel
end BW
set_option maxHeartbeats 1000000
namespace DL
open PySem L2
open PySem.W (Frag)
abbrev ksL (L : List (Addr × List Int × Int)) : List (List Int) := L.map (·.2.1)
end DL
set_option maxHeartbeats 1000000
namespace DL
open PySem L2
open PySem.W (Frag)
end DL
set_option maxHeartbeats 1000000
namespace DL
open PySem L2
open PySem.W (Frag)
def hpN : Nat → Heap
  | 0 => {}
  | n + 1 => (hpN n).push default
theorem hpN_size : ∀ n, (hpN n).objs.size = n
  | 0 => rfl
  | n + 1 => by
    show ((hpN n).push default).objs.size = n + 1
    rw [Heap.size_push, hpN_size n]
theorem heap_at (p : Addr) (o : Obj) (ho : o.isFreed = false) : ∃ h : Heap, h.get? p = some o := by
  refine ⟨(hpN p).push o, ?_⟩
  have := Heap.get?_push_size (hpN p) (o := o) ho
  rw [hpN_size] at this
  exact this
theorem nd_sub_len : ∀ {l z : List (List Int)}, l.Nodup → (∀ x ∈ l, x ∈ z) → l.length ≤ z.length
  | [], z, _, _ => Nat.zero_le _
  | a :: l, z, nd, h => by
    have ha := h a List.mem_cons_self
    obtain ⟨n1, n2⟩ := List.nodup_cons.mp nd
    have ih := nd_sub_len (z := z.erase a) n2 fun x hx => (List.mem_erase_of_ne fun e => n1 (by rw [← e]; exact hx)).mpr (h x (List.mem_cons_of_mem _ hx))
    rw [List.length_erase_of_mem ha] at ih
    have := List.length_pos_of_mem ha
    show l.length + 1 ≤ _
    omega
theorem KOk.few {m : Mc} {kn : Kn} {H : Hp} {L : List (Addr × List Int × Int)} (o : KOk m kn H L) : L.length ≤ 1000000 := by
  have : (ksL L).length ≤ kn.Z.length := nd_sub_len o.nd fun x hx => by
    obtain ⟨y, hy, rfl⟩ := List.mem_map.mp hx
    exact o.z y hy
  rw [List.length_map] at this
  have := o.lz
  omega
abbrev tuI (r : List Int) : D := .tup (r.map D.int)
theorem Rep.row {c : C} {s : S} {σ : L2.St} {H : Hp} {j : Nat} {r : List Int} (rp : Rep c s σ H) (h : s.sl[j]? = some (.dat (tuI r))) : ∃ q, σ[j]? = some (some (.ref q)) ∧ SqT c.K H q (r.map V.int) := by
  obtain ⟨v, e, hv⟩ := rp.slot j _ h
  obtain ⟨q, vs, rfl, h1, h2⟩ := hv.tupE
  rw [RlA.ints_v h2] at h1
  exact ⟨q, e, (wo_sub _ _).st h1⟩
end DL
set_option maxHeartbeats 1000000
namespace DL
open PySem L2
open PySem.W (Frag)
abbrev mcK (K : Frag) (N : List Int → Int) (Z : List (List Int)) (p : Addr) : Mc := ⟨p, p, p, [], some ⟨K, N, Z⟩⟩
abbrev C.kn (c : C) (N : List Int → Int) (Z : List (List Int)) (p : Addr) (X : List Addr) (H : Hp) : C := ⟨c.K, some (mcK c.K N Z p), X, H, c.ow⟩
@[reducible] def Sl.nO : Sl → Sl
  | .own _ _ => .no
  | .kds _ _ => .no
  | .mst => .no
  | x => x
theorem Rep.sw {c : C} {s : S} {σ : L2.St} {H : Hp} {p : Addr} {i : Nat} {N : List Int → Int} {Z : List (List Int)} (rp : Rep c s σ H) (hM : c.M = none) (hp : H p = none) (hz : Z.length ≤ 100000) (hi : i < s.sl.length) :
    Rep (c.kn N Z p s.X (upd H p (.ext (DiE p [])))) ⟨s.X, (s.sl.map Sl.nO).set i (.kds N Z), s.k⟩ (σ.set i (some (.ref p))) (upd H p (.ext (DiE p []))) := by
  have nf : p ∉ s.X := fun z => rp.xs p z hp
  have up : Sub (c.hid s.X H) ((c.kn N Z p s.X (upd H p (.ext (DiE p [])))).hid s.X (upd H p (.ext (DiE p [])))) := fun b o eb => by
    obtain ⟨z1, z2, z3⟩ := wo_all eb
    have nb : b ≠ p := fun z => by rw [z, hp] at z2; cases z2
    refine wo_of (fun z => ?_) (by rw [upd_ne nb]; exact z2) z3
    rcases List.mem_append.mp z with z | z
    · simp [Ml] at z; exact nb z
    · exact z1 (List.mem_append_right _ z)
  have le : σ.length = s.sl.length := rp.len.symm
  refine ⟨Sub.refl _, fun _ _ _ _ => rfl, fun _ h => h, fun a ha z => ?_, fun a ha => ?_, ?_, fun j x e => ?_, fun j k a b ds es e1 _ _ => ?_, by show ((s.sl.map Sl.nO).set i _).length = (σ.set i _).length; rw [List.length_set, List.length_map, List.length_set]; exact rp.len, .refl, fun a ha ps => ?_⟩
  · simp [Ml] at z
    rw [z] at ha
    exact nf ha
  · rw [upd_ne fun z => nf (by rw [← z]; exact ha)]
    exact rp.xs a ha
  · exact .ofK rfl ⟨[], upd_same, rfl, rfl, fun x hx => (nomatch hx), fun x hx => (nomatch hx), fun x hx => (nomatch hx), List.nodup_nil, hz, fun p hp => (nomatch hp)⟩
  · have e : ((s.sl.map Sl.nO).set i (.kds N Z))[j]? = some x := e
    by_cases hj : i = j
    · subst hj
      rw [List.getElem?_set_self (by rw [List.length_map]; exact hi)] at e
      cases e
      exact ⟨mcK c.K N Z p, ⟨rfl, rfl⟩, List.getElem?_set_self (by omega)⟩
    · rw [List.getElem?_set_ne hj, List.getElem?_map] at e
      obtain ⟨y, hy, rfl⟩ := Option.map_eq_some_iff.mp e
      have q := rp.slot j y hy
      show SlOk _ _ _ (σ.set i (some (.ref p)))[j]? _
      rw [List.getElem?_set_ne hj]
      cases y with
      | no => trivial
      | dat d =>
        obtain ⟨v, e, h⟩ := q
        exact ⟨v, e, h.mono up⟩
      | own a ds => trivial
      | mst => trivial
      | kds N Z => trivial
      | scr ns =>
        obtain ⟨v, e, h⟩ := q
        exact ⟨v, e, up.sl h⟩
  · have e1 : ((s.sl.map Sl.nO).set i (.kds N Z))[j]? = some (.own a ds) := e1
    by_cases hj : i = j
    · subst hj
      rw [List.getElem?_set_self (by rw [List.length_map]; exact hi)] at e1
      cases e1
    · rw [List.getElem?_set_ne hj, List.getElem?_map] at e1
      obtain ⟨y, hy, e2⟩ := Option.map_eq_some_iff.mp e1
      cases y <;> cases e2
  · rw [upd_ne fun z => nf (by rw [← z]; exact ha)]
    exact rp.xt a ha ps
theorem Rep.bk {c : C} {s : S} {σ : L2.St} {H : Hp} {p : Addr} {N : List Int → Int} {Z : List (List Int)} (rp : Rep c s σ H) (hM : c.M = none) (hp : H p = none) {k : Nat} {s2 : S} {τ : L2.St} {G : Hp} (r2 : Rep (c.kn N Z p s.X (upd H p (.ext (DiE p [])))) s2 τ G) :
    Rep c ⟨s.X, List.replicate τ.length .no, k⟩ τ G ∧ Sub ((c.kn N Z p s.X (upd H p (.ext (DiE p [])))).hid s2.X G) (c.hid s.X G) := by
  have nf : p ∉ s.X := fun z => rp.xs p z hp
  have up : Sub (c.hid s.X H) ((c.kn N Z p s.X (upd H p (.ext (DiE p [])))).hid s.X (upd H p (.ext (DiE p [])))) := fun b o eb => by
    obtain ⟨z1, z2, z3⟩ := wo_all eb
    have nb : b ≠ p := fun z => by rw [z, hp] at z2; cases z2
    refine wo_of (fun z => ?_) (by rw [upd_ne nb]; exact z2) z3
    rcases List.mem_append.mp z with z | z
    · simp [Ml] at z; exact nb z
    · exact z1 (List.mem_append_right _ z)
  have dn : Sub ((c.kn N Z p s.X (upd H p (.ext (DiE p [])))).hid s2.X G) (c.hid s.X G) := wo_more fun b hb => by
    rw [hM] at hb
    rcases List.mem_append.mp hb with hb | hb
    · simp [Ml] at hb
    · exact List.mem_append_right _ (r2.x0 b hb)
  have same : ∀ a ∈ s.X, G a = H a := fun a ha => by
    have na : a ≠ p := fun z => nf (by rw [← z]; exact ha)
    have e := r2.old a ha (fun z => by simp [Ml] at z; exact na z) (by show upd H p _ a ≠ none; rw [upd_ne na]; exact rp.xs a ha)
    rw [e]
    exact upd_ne na
  have tb : TbK H G := (TbK.new hp).trans r2.tb
  refine ⟨⟨((rp.sub.trans up).trans r2.sub).trans dn, fun a ha hm hn => ?_, rp.x0, rp.xm, fun a ha => by rw [same a ha]; exact rp.xs a ha, by rw [hM]; trivial, fun i x e => ?_, fun i j a b ds es e1 _ _ => ?_, List.length_replicate, rp.tb.trans tb, fun a ha ps => by rw [same a ha]; exact rp.xt a ha ps⟩, dn⟩
  · rw [same a (rp.x0 a ha)]
    exact rp.old a ha hm hn
  · have e : (List.replicate τ.length Sl.no)[i]? = some x := e
    rw [List.getElem?_replicate] at e
    split at e
    · cases e; trivial
    · cases e
  · have e1 : (List.replicate τ.length Sl.no)[i]? = some (.own a ds) := e1
    rw [List.getElem?_replicate] at e1
    split at e1 <;> cases e1
def Out (c' c : C) : Prop := ∀ (s2 : S) (τ : L2.St) (G : Hp), Rep c' s2 τ G → ∃ s3 : S, s3.k = s2.k ∧ Rep c s3 τ G ∧ Sub (c'.hid s2.X G) (c.hid s3.X G)
theorem Rep.out {c : C} {s : S} {σ : L2.St} {H : Hp} {p : Addr} {N : List Int → Int} {Z : List (List Int)} (rp : Rep c s σ H) (hM : c.M = none) (hp : H p = none) : Out (c.kn N Z p s.X (upd H p (.ext (DiE p [])))) c := fun s2 τ G r2 =>
  ⟨⟨s.X, List.replicate τ.length .no, s2.k⟩, rfl, (rp.bk hM hp (k := s2.k) r2).1, (rp.bk hM hp (k := s2.k) r2).2⟩
theorem Fin.bk {c : C} {s : S} {σ : L2.St} {H : Hp} {p : Addr} {N : List Int → Int} {Z : List (List Int)} (rp : Rep c s σ H) (hM : c.M = none) (hp : H p = none) {k : Nat} {G : Hp} (fi : Fin (c.kn N Z p s.X (upd H p (.ext (DiE p [])))) G k) :
    Fin c G k ∧ Sub ((c.kn N Z p s.X (upd H p (.ext (DiE p [])))).hid s.X G) (c.hid c.X0 G) := by
  have nf : p ∉ s.X := fun z => rp.xs p z hp
  have up : Sub (c.hid s.X H) ((c.kn N Z p s.X (upd H p (.ext (DiE p [])))).hid s.X (upd H p (.ext (DiE p [])))) := fun b o eb => by
    obtain ⟨z1, z2, z3⟩ := wo_all eb
    have nb : b ≠ p := fun z => by rw [z, hp] at z2; cases z2
    refine wo_of (fun z => ?_) (by rw [upd_ne nb]; exact z2) z3
    rcases List.mem_append.mp z with z | z
    · simp [Ml] at z; exact nb z
    · exact z1 (List.mem_append_right _ z)
  have dn : Sub ((c.kn N Z p s.X (upd H p (.ext (DiE p [])))).hid s.X G) (c.hid c.X0 G) := wo_more fun b hb => by
    rw [hM] at hb
    rcases List.mem_append.mp hb with hb | hb
    · simp [Ml] at hb
    · exact List.mem_append_right _ (rp.x0 b hb)
  refine ⟨⟨((rp.sub.trans up).trans fi.sub).trans dn, fun a ha hm hn => ?_, by rw [hM]; trivial, rp.tb.trans ((TbK.new hp).trans fi.tb)⟩, dn⟩
  have ha2 := rp.x0 a ha
  have na : a ≠ p := fun z => nf (by rw [← z]; exact ha2)
  have e := fi.old a ha2 (fun z => by simp [Ml] at z; exact na z) (by show upd H p _ a ≠ none; rw [upd_ne na]; exact rp.xs a ha2)
  rw [e]
  show upd H p _ a = _
  rw [upd_ne na]
  exact rp.old a ha hm hn
end DL
set_option maxHeartbeats 1000000
namespace BW
open PySem L2 DL
def cnF (T : Mat) : Nat → List Int → Int
  | 0, _ => 1
  | n + 1, r => if fall r = [] then 1 else ((fall r).map fun a => cnF T n (press T r (ix a))).sum
def cn (T : Mat) (r : List Int) : Int := cnF T 61 r
end BW
set_option maxHeartbeats 1000000
namespace DL
open PySem L2
open PySem.W (Frag)
abbrev oAddI : O2 := fun x y Q => match x, y with
  | .int i, .int j => Q (.int (i + j))
  | _, _ => False
theorem fit_addI {X : Cx} {c : C} : Fit2 c (rI0 fun i j => .int (i + j)) oAddI := fun s σ H x y a b R Q rp hx hy ho w => by
  cases a <;> first
    | exact ho.elim
    | (cases b <;> first
        | exact ho.elim
        | (cases hx.intE; cases hy.intE; exact ⟨_, _, rfl, rfl, w.same rp ho (.int _)⟩))
abbrev dAugI (o : O2) (i : Nat) (t : DE) : DS := fun DD s => ∃ d, s.sl[i]? = some (.dat d) ∧ t s fun e k => o d e fun z => DD.nx ((s.put i (.dat z)).at k)
section
variable {X : Cx} {c : C}
theorem psd_augA (i : Nat) {x : PySem.Str} {e : Expr} {t : DE} {pos pos' : Pos} (hN : X.N.Nodup) (he : PE X e (LE c t)) (hi : X.N[i]? = some x := by rfl) (hx : Loc X.env.scope x := by first | exact Or.inl rfl | exact Or.inr rfl) (hf : X.fn x = true ∨ X.env.scope.names.lookup x = some .local := by first | exact .inl rfl | exact .inr rfl) :
    PS X (.AugAssign (.Name x pos') .Add e pos) (LS c (dAugI oAddI i t)) :=
  (ps_aug (pos := pos) (pos' := pos') (ti := rI0 fun i j => .int (i + j)) hN hi hx he iop_add hf).weak fun D σ H ⟨s, DD, rp, ⟨d, h, q⟩, f⟩ => by
    obtain ⟨v, e1, rv⟩ := rp.slot i _ h
    refine ⟨v, e1, s, _, rp, q, fun y k hy u H1 r1 a1 e2 => ?_⟩
    refine fit_addI (X := X) (s.at k) σ H1 v u d y _ _ r1 (rv.mono a1.sub) e2 hy fun z hz w H2 r2 a2 e3 => ?_
    exact f.nx _ _ _ (r2.putD (i := i) e3) (a1.sub.trans a2.sub) hz
end
end DL
set_option maxHeartbeats 1000000
set_option maxHeartbeats 1000000
set_option maxHeartbeats 1000000
set_option maxHeartbeats 1000000
set_option maxHeartbeats 1000000
namespace DL
open PySem PySem.Spec PyProof.Rows L2
open PySem.W (Frag)
end DL
set_option maxHeartbeats 1000000
namespace DL
open PySem PySem.Spec PyProof.Rows L2
open PySem.W (Frag)
end DL
set_option maxHeartbeats 1000000
namespace DL
open PySem PySem.Spec PyProof.Rows L2
open PySem.W (Frag)
end DL
set_option maxHeartbeats 1000000
namespace L2
open PySem PySem.Spec PyProof.Rows GenW
section
variable {X : Cx} {st : Stmt} {rest : List Stmt} {pos : Pos}
theorem GS.weak {t t' : TGn} (h : GS X st t) (w : ∀ D ys σ H, t' D ys σ H → t D ys σ H) : GS X st t' := ⟨fun A S ip R n ys s₀ c fs K J gd lv s σ H D g hn k I q => h.run A S ip R n ys s₀ c fs K J gd lv s σ H D g hn k I (w _ _ _ _ q)⟩
theorem GSs.weak {t t' : TGn} (h : GSs X rest t) (w : ∀ D ys σ H, t' D ys σ H → t D ys σ H) : GSs X rest t' := ⟨fun A S ip R n ys s₀ c fs K J gd lv s σ H D g hn k I q => h.run A S ip R n ys s₀ c fs K J gd lv s σ H D g hn k I (w _ _ _ _ q)⟩
end
end L2
namespace DL
open PySem PySem.Spec PyProof.Rows L2
open PySem.W (Frag)
structure DGE where
  nx : List D → S → Prop
  bk : List D → S → Prop := fun _ _ => False
  ct : List D → S → Prop := fun _ _ => False
abbrev DGE.at (E : DGE) (es : List D) : DEnds := { nx := E.nx es, rt := fun _ _ => False, bk := E.bk es, ct := E.ct es }
section
variable {X : Cx} {c : C} {pos : Pos}
theorem RlA.snoc {K : Frag} {A : Hp} {vs : List V} {ds : List D} {d : D} (h : RlA K A vs (ds ++ [d])) : ∃ v, vs[vs.length - 1]? = some v ∧ Rl K A v d ∧ RlA K A vs.dropLast ds := by
  have hl : vs.length = ds.length + 1 := by rw [h.len, List.length_append, List.length_singleton]
  obtain ⟨v, h1, h2⟩ := h.getD (i := ds.length) (d := d) (by simp)
  refine ⟨v, by rw [hl]; exact h1, h2, ?_⟩
  have q := h.take ds.length
  rw [List.take_left] at q
  rw [List.dropLast_eq_take, hl]
  exact q
end
end DL
set_option maxHeartbeats 1000000
namespace L2
open PySem PySem.Spec PyProof.Rows GenW
end L2
namespace DL
open PySem PySem.Spec PyProof.Rows L2
open PySem.W (Frag)
end DL
set_option maxHeartbeats 1000000
namespace DL
open PySem L2
open PySem.W (Frag)
theorem Yl.rt {c : C} {s0 : S} {Hs : Hp} {K : Frag} {a : Addr} {vs : List V} {ds : List D} (hK : c.K = K) (h : SqT c.K (c.hid s0.X Hs) a vs) (r : RlA c.K (c.hid s0.X Hs) vs ds) : Yl c s0 Hs (RT.ItvT K a vs.length) ds.reverse := fun i s σ H rp ad => by
  subst hK
  have h1 : SqT c.K H a vs := (ad.trans (wo_sub _ _)).st h
  have r1 := r.mono ad
  refine ⟨fun hl => by show vs.length ≤ i; rw [r.len, ← List.length_reverse]; exact hl, fun d hd => ?_⟩
  have hi : i < ds.length := by
    obtain ⟨z, _⟩ := List.getElem?_eq_some_iff.mp hd
    rw [List.length_reverse] at z
    exact z
  rw [List.getElem?_reverse hi] at hd
  obtain ⟨v, hv, hr⟩ := r1.getD hd
  rw [← r.len] at hv
  refine ⟨⟨by rw [r.len]; exact hi, vs, v, h1, hv⟩, fun x H' ⟨e1, e2⟩ => ?_⟩
  subst e1
  have e3 := e2 vs h1
  rw [hv] at e3
  cases e3
  exact ⟨rp, AdvE.refl, hr⟩
end DL
set_option maxHeartbeats 1000000
namespace DL
open PySem L2
open PySem.W (Frag)
def DbE (p : Addr) (L : List (Addr × List Int)) (h : Heap) : Prop := ∃ o es ep, h.get? p = some o ∧ o.ExactDict ∧ o.data = .dict es ep ∧ (p == sysModules) = false ∧ es.toList = L.map (fun y => (⟨hashT y.2, .ref y.1, .bool true⟩ : DictEntry)) ∧ (L.map (·.2)).Nodup
end DL
set_option maxHeartbeats 1000000
namespace DL
open PySem L2
open PySem.W (KdlSrc)
end DL
set_option maxHeartbeats 1000000
namespace DL
open PySem PySem.Spec PyProof.Rows L2
open PySem.W (Frag dataLe AllAlike Sortable EachIs alike alikeAll KdlSrc)
end DL
set_option maxHeartbeats 1000000
namespace DL
open PySem PySem.Spec PyProof.Rows L2
open PySem.W (Frag)
end DL
set_option maxHeartbeats 1000000
namespace DL
open PySem L2
open PySem.W (Frag)
structure DcAt (c : C) (i : Nat) (p : Addr) (L : List (Addr × List Int)) (s : S) (σ : L2.St) (H : Hp) : Prop where
  slot : s.sl[i]? = some .no
  at_ : σ[i]? = some (some (.ref p))
  mem : p ∈ s.X
  out : p ∉ c.X0
  obj : H p = some (.ext (DbE p L))
  keys : ∀ x ∈ L, SqT c.K (c.hid s.X H) x.1 (x.2.map V.int)
theorem DcAt.noown {c : C} {i : Nat} {p : Addr} {L : List (Addr × List Int)} {s : S} {σ : L2.St} {H : Hp} (a : DcAt c i p L s σ H) (rp : Rep c s σ H) (j : Nat) (ds : List D) : s.sl[j]? ≠ some (.own p ds) := fun e => by
  obtain ⟨_, _, _, _, vs, h, _⟩ := rp.slot j _ e
  rw [a.obj] at h
  cases h
structure DdE where
  nx : S → List (List Int) → Prop
  rt : D → Nat → Prop
  bk : S → List (List Int) → Prop := fun _ _ => False
  ct : S → List (List Int) → Prop := fun _ _ => False
structure FitsD (c : C) (i : Nat) (p : Addr) (X : List Addr) (H : Hp) (DD : DdE) (D : Ends) : Prop where
  nx : ∀ s' σ' H' L', Rep c s' σ' H' → Adv' c X H s'.X H' → DcAt c i p L' s' σ' H' → DD.nx s' (L'.map (·.2)) → D.nx σ' H'
  bk : ∀ s' σ' H' L', Rep c s' σ' H' → Adv' c X H s'.X H' → DcAt c i p L' s' σ' H' → DD.bk s' (L'.map (·.2)) → D.bk σ' H'
  ct : ∀ s' σ' H' L', Rep c s' σ' H' → Adv' c X H s'.X H' → DcAt c i p L' s' σ' H' → DD.ct s' (L'.map (·.2)) → D.ct σ' H'
  rt : ∀ d k v H', Fin c H' k → Rl c.K (c.hid c.X0 H') v d → DD.rt d k → D.rt v H'
theorem DcAt.on {c : C} {i : Nat} {p : Addr} {L : List (Addr × List Int)} {s : S} {σ : L2.St} {H H1 : Hp} {k : Nat} (a : DcAt c i p L s σ H) (e : AdvE c s.X H H1) : DcAt c i p L (s.at k) σ H1 :=
  ⟨a.slot, a.at_, a.mem, a.out, by rw [e.own p a.mem]; exact a.obj, fun x hx => e.sub.st (a.keys x hx)⟩
theorem FitsD.on {c : C} {i : Nat} {p : Addr} {X X1 : List Addr} {H H1 : Hp} {DD : DdE} {D : Ends} (f : FitsD c i p X H DD D) (a : Adv' c X H X1 H1) : FitsD c i p X1 H1 DD D :=
  ⟨fun s σ H' L' r b z q => f.nx s σ H' L' r (a.trans b) z q, fun s σ H' L' r b z q => f.bk s σ H' L' r (a.trans b) z q, fun s σ H' L' r b z q => f.ct s σ H' L' r (a.trans b) z q, f.rt⟩
abbrev dcS (i : Nat) (s : S) : Prop := s.sl[i]? = some .no
end DL
set_option maxHeartbeats 1000000
namespace DL
open PySem L2
open PySem.W (Frag)
end DL
set_option maxHeartbeats 1000000
namespace DL
open PySem PySem.Spec PyProof.Rows L2
open PySem.W (Frag)
abbrev oAndB : O2 := fun a b R => ∃ i j : Int, a = .int i ∧ b = .int j ∧ R (.int (Builtin.bitAnd i j))
section
variable {X : Cx} {c : C} {p pos apos : Pos} {e o : Expr} {t u : DE}
theorem fit_andB : Fit2 c (rI0 fun i j => .int (Builtin.bitAnd i j)) oAndB := fun s σ H x y a b R Q rp e1 e2 ⟨i, j, ha, hb, hR⟩ f => by
  subst ha hb
  cases e1.intE
  cases e2.intE
  exact ⟨i, j, rfl, rfl, f _ hR _ H rp AdvE.refl (.int _)⟩
theorem pd_andB {a b : Expr} {ta tb : DE} (ha : PE X a (LE c ta)) (hb : PE X b (LE c tb)) : PE X (.BinOp a .BitAnd b pos) (LE c (dOp oAndB ta tb)) := pd_bin op_and fit_andB ha hb
theorem Yl.str {s0 : S} {Hs : Hp} {x : PySem.Str} : Yl c s0 Hs (Its x) (x.cps.toList.map fun c => .str ⟨#[c]⟩) := fun i s σ H rp ad => by
  refine ⟨fun hl => by show x.cps.size ≤ i; rw [List.length_map, Array.length_toList] at hl; exact hl, fun d hd => ?_⟩
  rw [List.getElem?_map] at hd
  obtain ⟨z, hz, rfl⟩ := Option.map_eq_some_iff.mp hd
  rw [Array.getElem?_toList] at hz
  refine ⟨(Array.getElem?_eq_some_iff.mp hz).1, fun v H' ⟨e1, c1, e2, e3⟩ => ?_⟩
  subst e1 e3
  rw [hz] at e2
  cases e2
  exact ⟨rp, AdvE.refl, .str _⟩
end
end DL
set_option maxHeartbeats 1000000
set_option maxHeartbeats 1000000
set_option maxHeartbeats 1000000
namespace DL
open PySem L2
open PySem.W (Frag)
end DL
set_option maxHeartbeats 1000000
namespace DL
open PySem L2
open PySem.W (Frag dataLe AllAlike Sortable alike)
end DL
set_option autoImplicit false
set_option maxHeartbeats 1600000
namespace DL
open PySem PySem.Spec PyProof.Rows L2 PpSet
open PySem.W (Frag dataLe AllAlike EachIs)
end DL
set_option maxHeartbeats 1000000
namespace DL
open PySem PySem.Spec PyProof.Rows L2
open PySem.W (Frag)
end DL
set_option maxHeartbeats 1000000
set_option maxHeartbeats 1000000
set_option maxHeartbeats 1000000
namespace BW
open PySem L2 DL
def wb : Nat → Nat
  | 0 => 1
  | k + 1 => min 6 (k + 1) * wb k
end BW
set_option autoImplicit false
set_option maxHeartbeats 1000000
set_option autoImplicit false
set_option maxHeartbeats 1000000
namespace BW
open PySem L2 DL
open PySem.W (dataLe dataLt AllAlike Sortable)
def pairD (w : List Int) : D := .tup [.int w.length, tI w]
theorem kLen_tI2 (w : List Int) : kLen (tI w) = .tuple [.int w.length, .tuple (w.map .int)] := kLen_tI w
theorem pair_lt (a b : List Int) : dataLt (.tuple [.int a.length, .tuple (a.map .int)]) (.tuple [.int b.length, .tuple (b.map .int)]) = decide (a.length < b.length ∨ (a.length = b.length ∧ a < b)) := by
  rw [PySem.W.dataLt_tuple]
  have al : PySem.W.alike (.int (a.length : Int)) (.int (b.length : Int)) = true := rfl
  have al2 := alike_pyI a b
  by_cases h : a.length = b.length
  · rw [PySem.W.dataLt_all_yes al (by show decide ((a.length : Int) = (b.length : Int)) = true; rw [h]; exact decide_eq_true rfl)]
    by_cases e : PyData.eqv (.tuple (a.map .int)) (.tuple (b.map .int)) = true
    · rw [PySem.W.dataLt_all_yes al2 e]
      have eab : a = b := by
        have q := eqv_tupI a b
        rw [show (tI a).py = PyData.tuple (a.map .int) by show PyData.tuple (pyA (a.map D.int)) = _; rw [py_ints], show (tI b).py = PyData.tuple (b.map .int) by show PyData.tuple (pyA (b.map D.int)) = _; rw [py_ints], e] at q
        exact of_decide_eq_true q.symm
      subst eab
      rw [decide_eq_false (by rintro (z | ⟨_, z⟩); exact Nat.lt_irrefl _ z; exact List.lt_irrefl _ z)]
      rfl
    · have e : PyData.eqv (.tuple (a.map .int)) (.tuple (b.map .int)) = false := by simpa using e
      rw [PySem.W.dataLt_all_no al2 e]
      have q := leI_eq b a
      have q2 : (!dataLt (.tuple (a.map .int)) (.tuple (b.map .int))) = decide (b ≤ a) := q
      by_cases c : a < b
      · rw [decide_eq_false (fun z => List.not_lt.mpr z c)] at q2
        rw [decide_eq_true (.inr ⟨h, c⟩)]
        simpa using q2
      · rw [decide_eq_true (List.not_lt.mp c)] at q2
        rw [decide_eq_false (by rintro (z | ⟨_, z⟩); omega; exact c z)]
        simpa using q2
  · rw [PySem.W.dataLt_all_no al (by show decide ((a.length : Int) = (b.length : Int)) = false; exact decide_eq_false (by omega)), PySem.W.dataLt_int]
    by_cases c : a.length < b.length
    · exact (decide_eq_true (by omega : (a.length : Int) < b.length)).trans (decide_eq_true (.inl c)).symm
    · exact (decide_eq_false (by omega : ¬ (a.length : Int) < b.length)).trans (decide_eq_false (by rintro (z | ⟨z, _⟩) <;> omega)).symm
def leW (a b : List Int) : Bool := !decide (b.length < a.length ∨ (b.length = a.length ∧ b < a))
theorem leW_iff {a b : List Int} : leW a b = true ↔ a.length < b.length ∨ (a.length = b.length ∧ a ≤ b) := by
  unfold leW
  rw [Bool.not_eq_true', decide_eq_false_iff_not]
  constructor
  · intro h
    rcases Nat.lt_trichotomy a.length b.length with c | c | c
    · exact .inl c
    · exact .inr ⟨c, List.not_lt.mp fun z => h (.inr ⟨c.symm, z⟩)⟩
    · exact absurd (.inl c) h
  · rintro (h | ⟨h, h2⟩) (z | ⟨z, z2⟩)
    · omega
    · omega
    · omega
    · exact List.not_lt.mpr h2 z2
def srtW (L : List (List Int)) : List (List Int) := L.mergeSort leW
theorem srt_prog (L : List (List Int)) : (L.map tI).mergeSort (dataLe false kLen) = (srtW L).map tI := by
  refine (List.map_mergeSort fun a _ b _ => ?_).symm
  show leW a b = !dataLt (kLen (tI b)) (kLen (tI a))
  rw [kLen_tI2, kLen_tI2, pair_lt]
  rfl
theorem srt_pw (L : List (List Int)) : (srtW L).Pairwise fun a b => leW a b = true := by
  refine List.pairwise_mergeSort (le := leW) (fun a b c h1 h2 => ?_) (fun a b => ?_) L
  · rw [leW_iff] at *
    rcases h1 with h1 | ⟨h1, h3⟩ <;> rcases h2 with h2 | ⟨h2, h4⟩
    · exact .inl (by omega)
    · exact .inl (by omega)
    · exact .inl (by omega)
    · exact .inr ⟨by omega, List.le_trans h3 h4⟩
  · rw [Bool.or_eq_true, leW_iff, leW_iff]
    rcases Nat.lt_trichotomy a.length b.length with c | c | c
    · exact .inl (.inl c)
    · rcases List.le_total a b with h | h
      · exact .inl (.inr ⟨c, h⟩)
      · exact .inr (.inr ⟨c.symm, h⟩)
    · exact .inr (.inl c)
theorem srt_mem {L : List (List Int)} {w : List Int} : w ∈ srtW L ↔ w ∈ L := List.mem_mergeSort
end BW
namespace DL
open PySem L2 L2G
open PySem.W (Frag)
end DL
set_option maxHeartbeats 1000000
namespace L2
open PySem PySem.Spec PyProof.Rows GenW
structure Dozed (Z : List Addr) (a b : Shared) : Prop where
  o1 : b.os = a.os
  g1 : AllBare b.gens
  k1 : ∀ x o, x ∉ Z → a.heap.get? x = some o → b.heap.get? x = some o
  z1 : ∀ x ∈ Z, ∃ o, b.heap.get? x = some o ∧ ∀ v, o.data ≠ .cell v
def IZ (X : Cx) (Z : List Addr) (G : List V → Shared → Prop) (ys : List V) (s0 : Shared) (σ : St) (H : Hp) (s : Shared) : Prop := G ys s0 ∧ ∃ zo : List (Addr × Obj), zo.map Prod.fst = Z ∧ (∀ p ∈ zo, s0.heap.get? p.1 = some p.2) ∧ Inv X zo σ H s
structure AZ (X : Cx) (Z : List Addr) : Prop where
  pz : ∀ p ∈ X.pn, p.1 ∉ Z
  yz : ∀ z ∈ Z, X.s_0.heap.objs.size ≤ z ∧ z ≠ X.env.locals ∧ ∀ y c, X.env.cells.lookup y = some c → c ≠ z
structure Asks where
  it : List V → V → Hp → Prop
  more : Bool
  G : List V → Shared → Prop
def PZ (X : Cx) (Z : List Addr) (L : Asks) : Protocol := fun n s0 v s kap => ∃ ys x σ H, n + 1 + ys.length = sizeLine ∧ RelV x v ∧ IZ X Z L.G ys s0 σ H s ∧ L.it ys x H ∧ (L.more = true → ∀ b, Dozed Z s b → L.G (ys ++ [x]) b → kap (.send .none) b)
structure ZEnds where
  nx : List V → St → Hp → Prop
  bk : List V → St → Hp → Prop := fun _ _ _ => False
  ct : List V → St → Hp → Prop := fun _ _ _ => False
abbrev TZn := ZEnds → Asks → List V → St → Hp → Prop
def ZEnds.at (D : ZEnds) (ys : List V) : Ends := { nx := D.nx ys, rt := fun _ _ => False, bk := D.bk ys, ct := D.ct ys }
def ZP (X : Cx) (Z : List Addr) (G : List V → Shared → Prop) (s0 : Shared) (D : ZEnds) (ys : List V) (f : Flow) (s : Shared) : Prop :=
  match f with
  | .next => ∃ σ H, IZ X Z G ys s0 σ H s ∧ D.nx ys σ H
  | .brk => ∃ σ H, IZ X Z G ys s0 σ H s ∧ D.bk ys σ H
  | .cont => ∃ σ H, IZ X Z G ys s0 σ H s ∧ D.ct ys σ H
  | .ret _ => False
structure CZ (X : Cx) (Z : List Addr) (A : Around) (c : Code) (fs : List Frame) (gd : Bool → Bool) : Prop extends AZ X Z where
  ov : A.over c fs = X.A
  sp : splitAtGen fs = none
  gu : fs.any Frame.guarded = false
  gz : gd false = false
structure NZ (X : Cx) (Z : List Addr) (A : Around) (R : GenEnd) (L : Asks) (c : Code) (fs : List Frame) (K : Flow → Sem PySem.Fin) (J : Value → Sem PySem.Fin) (D : ZEnds) : Prop where
  ok : ∀ (n : Nat) (ys : List V) (s0 s : Shared) (f : Flow), n + ys.length = sizeLine → ZP X Z L.G s0 D ys f s → Seg (model X.prog X.w) A R (PZ X Z L) n s0 c (K f) fs s
  ex : ∀ (n : Nat) (s0 : Shared) (e : Value) (s : Shared), X.xe e s → Seg (model X.prog X.w) A R (PZ X Z L) n s0 c (J e) fs s
structure WZ (X : Cx) (m : Sem Flow) (t : TZn) : Prop where
  go : ∀ {A : Around} {Z : List Addr} {R : GenEnd} {L : Asks} {n : Nat} {ys : List V} {s0 : Shared} {c : Code} {fs : List Frame} {K : Flow → Sem PySem.Fin} {J : Value → Sem PySem.Fin} {gd : Bool → Bool} {lv : List Value → List Value} {s : Shared} {σ : St} {H : Hp} {D : ZEnds},
    CZ X Z A c fs gd → n + ys.length = sizeLine → NZ X Z A R L c fs K J D → IZ X Z L.G ys s0 σ H s → t D L ys σ H → Seg (model X.prog X.w) A R (PZ X Z L) n s0 c (m.wrap K J gd lv) fs s
section
variable {X : Cx} {st : Stmt} {rest : List Stmt} {pos : Pos}
theorem WZ.weak {m : Sem Flow} {t u : TZn} (h : WZ X m t) (w : ∀ D L ys σ H, u D L ys σ H → t D L ys σ H) : WZ X m u := ⟨fun g hn k hI q => h.go g hn k hI (w _ _ _ _ _ q)⟩
end
end L2
set_option maxHeartbeats 1000000
namespace L2
open PySem PySem.Spec PyProof.Rows GenW
end L2
set_option maxHeartbeats 1000000
namespace L2
open PySem PySem.Spec PyProof.Rows GenW
end L2
namespace DL
open PySem PySem.Spec PyProof.Rows L2
open PySem.W (Frag)
structure DZE where
  nx : List D → S → Prop
  bk : List D → S → Prop := fun _ _ => False
  ct : List D → S → Prop := fun _ _ => False
abbrev DZE.at (E : DZE) (es : List D) : DEnds := { nx := E.nx es, rt := fun _ _ => False, bk := E.bk es, ct := E.ct es }
end DL
set_option maxHeartbeats 1000000
namespace L2
open PySem PySem.Spec PyProof.Rows GenW
end L2
set_option maxHeartbeats 1000000
namespace L2
open PySem PySem.Spec PyProof.Rows GenW
def BlkG (D C : Addr) (ys : List V) (s : Shared) : Prop := (∃ (acc : Array Value) (c : Nat), s.heap.get? D = some (lstObj acc c) ∧ Vals ys acc.toList) ∧ ∃ m, s.heap.Ns C m
theorem BlkG.out {D C : Addr} {ys : List V} {s : Shared} (h : BlkG D C ys s) : ∀ z ∈ [D, C], ∃ o, s.heap.get? z = some o ∧ ∀ v, o.data ≠ .cell v := fun z hz => by
  obtain ⟨⟨acc, c, e, _⟩, m, o, es, ep, ho, hd, _⟩ := h
  rcases List.mem_cons.mp hz with rfl | hz
  · exact ⟨_, e, fun v q => by cases q⟩
  · rw [List.mem_singleton.mp hz]
    exact ⟨o, ho, fun v q => by rw [hd] at q; cases q⟩
end L2
set_option autoImplicit false
set_option maxHeartbeats 1000000
namespace DL
open PySem PySem.Spec PyProof.Rows L2
open PySem.W (Frag)
end DL
set_option autoImplicit false
set_option maxHeartbeats 1000000
namespace L2
open PySem PySem.Spec PyProof.Rows GenW
def LstG (S : Addr) (ys : List V) (s : Shared) : Prop := ∃ (acc : Array Value) (c : Nat), s.heap.get? S = some (lstObj acc c) ∧ Vals ys acc.toList
theorem LstG.out {S : Addr} {ys : List V} {s : Shared} (h : LstG S ys s) : ∀ z ∈ [S], ∃ o, s.heap.get? z = some o ∧ ∀ v, o.data ≠ .cell v := fun z hz => by
  obtain ⟨acc, c, e, _⟩ := h
  rw [List.mem_singleton.mp hz]
  exact ⟨_, e, fun v q => by cases q⟩
end L2
namespace DL
open PySem PySem.Spec PyProof.Rows L2
open PySem.W (Frag)
end DL
set_option autoImplicit false
set_option maxHeartbeats 1000000
namespace DL
open PySem PySem.Spec PyProof.Rows L2 LamX
open PySem.W (Frag)
end DL
set_option autoImplicit false
set_option maxHeartbeats 1000000
set_option autoImplicit false
set_option maxHeartbeats 1000000
namespace BW
open PySem L2 DL
def hiL (c r : List Int) : List Int := c.filter fun a => decide (0 < r.getD (ix a) 0)
def lgF (T : Mat) (c : List Int) : Nat → List Int → List Int → Option (List Int)
  | 0, _, _ => none
  | n + 1, r, u => match hiL c r with
    | [] => some u
    | a :: _ => lgF T c n (press T r (ix a)) (u ++ [a])
def lgD (T : Mat) (c : List Int) : D := match lgF T c 61 (one T) [] with
  | some u => tI u
  | none => .non
def sp_longest_within (BC : Addr) : DSp := fun ds k R => ∃ T c, ds = [bnd BC T, tI c] ∧ Tab T ∧ Wd T.length c ∧ c.length ≤ 100 ∧ R (lgD T c) k
abbrev t_lg1 : DS := (dSet 4 (dFr (dLc (iTp (dVar 1)) (dgN 5) (dTB (dOp oGt (dIxN 2 (dOp oSub (dVar 5) (dC (.int 1)))) (dC (.int 0)))) (dVar 5) [5])))
abbrev t_lg2 : DS := (dIfS (dNot (dTru (dVar 4))) (dRet (dVar 3)) dNext)
abbrev t_lg3 (BC : Addr) : DS := (dSeq (dSet 2 (dCall (sp_pressed BC) (dCons (dVar 0) (dCons (dVar 2) (dCons (dIxN 4 (dC (.int 0))) dNil)))))
  (dAugT 3 (dTup (dCons (dIxN 4 (dC (.int 0))) dNil))))
abbrev t_longest_within (BC : Addr) : DS := (dSeq (dSet 2 (dCall (sp_first_row BC) (dCons (dVar 0) dNil)))
  (dSeq (dSet 3 (dTup dNil))
  (dSeq (dWhile (dTB (dOp oLe (dLenN 3) (dC (.int (60))))) (dSeq t_lg1
  (dSeq t_lg2
  (t_lg3 BC))))
  (dRet (dC .non)))))
section
variable {BC : Addr} {T : Mat} {c r u : List Int} {a : Int} {X : List Addr} {k : Nat} {x2 x3 x4 x5 : Sl} {DD : DEnds}
abbrev slLg (BC : Addr) (T : Mat) (c : List Int) (x2 x3 x4 x5 : Sl) : List Sl := [.dat (bnd BC T), .dat (tI c), x2, x3, x4, x5]
theorem r_lg1 (ht : Tab T) (hc : Wd T.length c) (cl : c.length ≤ 100) (hr : r.length = T.length) (fin : ∀ x5, DD.nx ⟨X, slLg BC T c (.dat (tI r)) x3 (.dat (lI (hiL c r))) x5, k⟩) : t_lg1 DD ⟨X, slLg BC T c (.dat (tI r)) x3 x4 x5, k⟩ := by
  have lm : (c.map D.int).length = c.length := List.length_map ..
  refine ⟨_, rfl, _, rfl, by rw [lm]; exact Nat.le_trans cl (by decide), fun p hp => ⟨fun j acc k' => k' = k ∧ acc = (hiL (c.take j) r).map D.int, ⟨rfl, rfl⟩, ?_, ?_⟩⟩
  · rintro j e acc k' he ⟨rfl, rfl⟩ _
    rw [List.getElem?_map] at he
    obtain ⟨a, ha, rfl⟩ := Option.map_eq_some_iff.mp he
    have ab := hc a (List.mem_of_getElem? ha)
    have hi : ix a < r.length := by rw [hr]; unfold ix; omega
    have at1 : atI (r.map D.int) (a - 1) = some (.int (r.getD (ix a) 0)) := by
      have q : atI (r.map D.int) ((ix a : Nat) : Int) = some (.int (r.getD (ix a) 0)) := atI_nat (by rw [List.getElem?_map, getD_get (d := 0) hi]; rfl)
      have e : ((ix a : Nat) : Int) = a - 1 := by unfold ix; omega
      rw [e] at q; exact q
    refine ⟨_, rfl, _, rfl, _, _, rfl, at1, _, rfl, ?_⟩
    have tk : c.take (j + 1) = c.take j ++ [a] := by rw [List.take_succ, ha]; rfl
    by_cases h : r.getD (ix a) 0 > 0
    · rw [decide_eq_true h]
      refine iteT ⟨_, rfl, rfl, ?_⟩
      unfold hiL
      rw [tk, List.filter_append, List.map_append]
      rw [show [a].filter (fun a => decide (0 < r.getD (ix a) 0)) = [a] from List.filter_cons_of_pos (decide_eq_true h)]
      rfl
    · rw [decide_eq_false h]
      refine iteF ⟨rfl, ?_⟩
      unfold hiL
      rw [tk, List.filter_append, List.map_append]
      rw [show [a].filter (fun a => decide (0 < r.getD (ix a) 0)) = [] from List.filter_cons_of_neg (by rw [decide_eq_false h]; decide)]
      exact (List.append_nil _).symm
  · rintro acc k' ⟨rfl, rfl⟩ _
    rw [lm, List.take_length]
    exact fin _
theorem r_lg3 (ht : Tab T) (hr : r.length = T.length) (a0 : 1 ≤ a) (a1 : a ≤ T.length) {l : List Int} (ul : u.length ≤ 60) (fin : DD.nx ⟨X, slLg BC T c (.dat (tI (press T r (ix a)))) (.dat (tI (u ++ [a]))) (.dat (lI (a :: l))) x5, k⟩) : t_lg3 BC DD ⟨X, slLg BC T c (.dat (tI r)) (.dat (tI u)) (.dat (lI (a :: l))) x5, k⟩ := by
  have at0 : atI ((a :: l).map D.int) 0 = some (.int a) := atI_nat (j := 0) rfl
  refine ⟨_, rfl, _, rfl, _, rfl, 0, _, rfl, at0, T, r, a, rfl, ht, hr, a0, a1, ?_⟩
  refine ⟨_, rfl, _, rfl, 0, _, rfl, at0, by show 1 ≤ lim; decide, ?_⟩
  have lm : (u.map D.int).length = u.length := List.length_map ..
  refine ⟨by rw [lm]; show u.length + 1 ≤ lim; exact Nat.le_trans (by omega : _ ≤ 1000) (by decide), ?_⟩
  have e : D.tup (u.map D.int ++ [D.int a]) = tI (u ++ [a]) := by show _ = D.tup ((u ++ [a]).map D.int); rw [List.map_append]; rfl
  rw [e]
  exact fin
end
theorem r_longest_within (BC : Addr) (X : List Addr) (ds : List D) (k : Nat) (R : D → Nat → Prop) (h : sp_longest_within BC ds k R) : t_longest_within BC (En R) (St0 false 6 ds X k) := by
  obtain ⟨T, c, rfl, ht, hc, cl, h⟩ := h
  refine ⟨_, rfl, T, rfl, ht, by show 0 ≤ lim; decide, ?_⟩
  refine ⟨fun m s' => ∃ (r u : List Int) (x4 x5 : Sl), s' = ⟨X, slLg BC T c (.dat (tI r)) (.dat (tI u)) x4 x5, k⟩ ∧ r.length = T.length ∧ u.length + m = 61 ∧ lgF T c m r u = lgF T c 61 (one T) [], ⟨61, one T, [], .no, .no, rfl, (by unfold one; rw [List.length_replicate]), rfl, rfl⟩, ?_⟩
  rintro m s' ⟨r, u, x4, x5, rfl, hr, hm, e⟩
  have lm : (u.map D.int).length = u.length := List.length_map ..
  refine ⟨_, rfl, _, rfl, ?_⟩
  cases m with
  | zero =>
    rw [decide_eq_false (by rw [lm]; omega)]
    refine iteF fun X' => ?_
    have q : lgD T c = .non := by unfold lgD; rw [← e]; rfl
    rw [← q]
    exact h
  | succ n =>
    rw [decide_eq_true (by rw [lm]; omega)]
    refine iteT (r_lg1 ht hc cl hr fun y5 => ?_)
    cases eh : hiL c r with
    | nil =>
      refine ⟨_, rfl, _, rfl, iteT fun X' => ⟨_, rfl, ?_⟩⟩
      have q : lgD T c = tI u := by
        unfold lgD
        rw [← e]
        show (match (match hiL c r with | [] => some u | a :: _ => lgF T c n (press T r (ix a)) (u ++ [a])) with | some u => tI u | none => D.non) = tI u
        rw [eh]
      rw [← q]
      exact h
    | cons a l =>
      have ab := hc a (List.mem_filter.mp (eh ▸ List.mem_cons_self : a ∈ hiL c r)).1
      refine ⟨_, rfl, _, rfl, iteF ?_⟩
      refine r_lg3 ht hr ab.1 ab.2 (by omega) ?_
      refine ⟨n, Nat.lt_succ_self _, press T r (ix a), u ++ [a], _, _, rfl, press_length _ _ _, by rw [List.length_append, List.length_singleton]; omega, ?_⟩
      rw [← e]
      show _ = (match hiL c r with | [] => some u | a :: _ => lgF T c n (press T r (ix a)) (u ++ [a]))
      rw [eh]
end BW
set_option maxHeartbeats 1000000
namespace DL
open PySem PySem.Spec PyProof.Rows L2
open PySem.W (Frag)
theorem RlA.eraseIdx {K : Frag} {A : Hp} : ∀ {vs : List V} {ds : List D} (n : Nat), RlA K A vs ds → RlA K A (vs.eraseIdx n) (ds.eraseIdx n)
  | _, _, _, .nil => .nil
  | _, _, 0, .cons _ r => r
  | _, _, n + 1, .cons h r => .cons h (RlA.eraseIdx n r)
abbrev dNeg (t : DE) : DE := fun s Q => t s fun d k => ∃ i, d = .int i ∧ Q (.int (-i)) k
abbrev dAppPop (i j : Nat) (t : DE) : DS := fun DD s => ∃ p ds q es, s.sl[i]? = some (.own p ds) ∧ s.sl[j]? = some (.own q es) ∧ i ≠ j ∧ t s fun d k => ∃ (z : Nat) (y : D), d = .int z ∧ (z : Int) < 2 ^ 62 ∧ es[z]? = some y ∧ ds.length < lim ∧ DD.nx (((s.put j (.own q (es.eraseIdx z))).put i (.own p (ds ++ [y]))).at k)
section
variable {X : Cx} {c : C} {p pos : Pos}
theorem pd_neg {a : Expr} {t : DE} (h : PE X a (LE c t)) : PE X (.UnaryOp .USub a pos) (LE c (dNeg t)) :=
  (pe_un un_neg h).weak fun σ H Q ⟨s, R, rp, q, f⟩ => ⟨s, _, rp, q, fun d k ⟨i, e, hR⟩ v H1 r1 a1 e1 => by
    subst e
    cases e1.intE
    exact ⟨i, rfl, f _ k hR _ H1 r1 a1 (.int _)⟩⟩
theorem psd_appPop (i j : Nat) {x y : PySem.Str} {pn pm apos cpos ap2 cp2 : Pos} {e : Expr} {t : DE} (he : PE X e (LE c t)) (hN : X.N[i]? = some x := by rfl) (hv : Vis X.env.scope x := by first | exact Or.inl rfl | exact Or.inr (Or.inl rfl) | exact Or.inr (Or.inr rfl)) (hd : (x == ("__debug__" : PySem.Str)) = false := by decide) (hcd : (x == ("__classdict__" : PySem.Str)) = false := by decide)
    (hN2 : X.N[j]? = some y := by rfl) (hv2 : Vis X.env.scope y := by first | exact Or.inl rfl | exact Or.inr (Or.inl rfl) | exact Or.inr (Or.inr rfl)) (hd2 : (y == ("__debug__" : PySem.Str)) = false := by decide) (hcd2 : (y == ("__classdict__" : PySem.Str)) = false := by decide)
    (hbase : attributeBase (Expr.Name x pn) "append" X.env (eval (Expr.Name x pn) X.env) = eval (Expr.Name x pn) X.env := by rfl)
    (hbase2 : attributeBase (Expr.Name y pm) "pop" X.env (eval (Expr.Name y pm) X.env) = eval (Expr.Name y pm) X.env := by rfl)
    (hfew2 : ((backTo cp2 (starEach (e :: []) X.env)).all (fun x => !x.1) && (backToKw cp2 (keywordEach [] X.env)).all (fun x => x.1.isSome) && decide ((e :: []).length + ([] : List Keyword).length + (if ([] : List Keyword).isEmpty then 0 else 1) < 30)) = true := by rfl)
    (hline2 : (ap2.endLine == cp2.line) = true := by rfl) (hs2 : starEach (e :: []) X.env = (false, eval e X.env) :: starEach [] X.env := by rfl) (hplain2 : (backTo cp2 (starEach [] X.env)).any (·.1) = false := by rfl)
    (hfew : ((backTo cpos (starEach (.Call (.Attribute (.Name y pm) "pop" ap2) [e] [] cp2 :: []) X.env)).all (fun x => !x.1) && (backToKw cpos (keywordEach [] X.env)).all (fun x => x.1.isSome) && decide ((Expr.Call (.Attribute (.Name y pm) "pop" ap2) [e] [] cp2 :: []).length + ([] : List Keyword).length + (if ([] : List Keyword).isEmpty then 0 else 1) < 30)) = true := by rfl)
    (hline : (apos.endLine == cpos.line) = true := by rfl) (hs : starEach (.Call (.Attribute (.Name y pm) "pop" ap2) [e] [] cp2 :: []) X.env = (false, eval (.Call (.Attribute (.Name y pm) "pop" ap2) [e] [] cp2) X.env) :: starEach [] X.env := by rfl) (hplain : (backTo cpos (starEach [] X.env)).any (·.1) = false := by rfl)
    (hsw : swapsWith (.Call (.Attribute (.Name x pn) "append" apos) [.Call (.Attribute (.Name y pm) "pop" ap2) [e] [] cp2] [] cpos) none pos.line X.env = pure false := by rfl) :
    PS X (.Expr (.Call (.Attribute (.Name x pn) "append" apos) [.Call (.Attribute (.Name y pm) "pop" ap2) [e] [] cp2] [] cpos) pos) (LS c (dAppPop i j t)) :=
  (ps_expr (pe_bm PySem.F.plainAttrs_list PySem.F.slot_list_append PySem.F.type_list_append mt_append (pe_var hN hv hd hcd) (pa_cons (pe_bm PySem.F.plainAttrs_list PySem.F.slot_list_pop PySem.F.type_list_pop mt_popAt (pe_var hN2 hv2 hd2 hcd2) (pa_cons he pa_nil hs2) hbase2 hfew2 hline2 hs2 hplain2) pa_nil hs) hbase hfew hline hs hplain) hsw).weak fun D σ H ⟨s, DD, rp, ⟨a, ds, b, es, ha, hb, ne, q⟩, f⟩ => by
    obtain ⟨e1, h1, h2, h3, vs, h4, h5⟩ := rp.slot i _ ha
    obtain ⟨g1, g2, g3, g4, us, g5, g6⟩ := rp.slot j _ hb
    have nab : a ≠ b := rp.apart i j a b ds es ha hb ne
    refine ⟨_, e1, .inl ⟨rfl, _, SqL.of h4⟩, _, g1, .inl ⟨rfl, _, SqL.of g5⟩, s, _, rp, q, fun d k ⟨z, y, hd, hz, hy, hl, hR⟩ v H1 r1 a1 e2 => ?_⟩
    subst hd
    cases e2.intE
    have h6 : H1 a = some (.lst vs) := by rw [a1.own a h1]; exact h4
    have g7 : H1 b = some (.lst us) := by rw [a1.own b g2]; exact g5
    have zl : z < es.length := (List.getElem?_eq_some_iff.mp hy).1
    have ul := g6.len
    obtain ⟨w, hw, ew⟩ := (g6.mono a1.sub).getD hy
    refine ⟨b, us, (z : Int), z, w, rfl, rfl, g7, by omega, by omega, seqIndex_of (by omega) (by omega), hw, ?_⟩
    have m1 := Rep.mut (s := s.at k) r1 hb (RlA.eraseIdx z (g6.mono a1.sub))
    refine ⟨a, vs, w, rfl, rfl, by rw [upd_ne nab]; exact h6, by rw [h5.len]; exact lim_lt (Nat.le_of_lt hl), ?_⟩
    have ha2 : ((s.at k).put j (.own b (es.eraseIdx z))).sl[i]? = some (.own a ds) := by
      show (s.sl.set j _)[i]? = _
      rw [List.getElem?_set_ne ne.symm]
      exact ha
    have m2 := Rep.mut (s := (s.at k).put j (.own b (es.eraseIdx z))) m1.1 ha2 ((((h5.mono a1.sub).mono m1.2)).app (.cons (ew.mono m1.2) .nil))
    exact f.nx _ σ _ m2.1 ((a1.sub.trans m1.2).trans m2.2) hR
end
end DL
set_option maxHeartbeats 1000000
namespace DL
open PySem L2
open PySem.W (Frag)
section
variable {c : C} {s : S} {σ : L2.St} {H H1 : Hp} {k : Nat}
theorem Rep.backF (rp : Rep c s σ H) (r1 : Rep c ⟨c.X0, s.sl.map Sl.frz, k⟩ σ H1) (a1 : AdvE c c.X0 H H1) : Rep c (s.at k) σ H1 ∧ AdvE c s.X H H1 := by
  have on : ∀ a ∈ s.X, H1 a = H a := fun a ha => by
    by_cases h0 : a ∈ c.X0
    · exact a1.own a h0
    · obtain ⟨o, e⟩ := Option.ne_none_iff_exists'.mp (rp.xs a ha)
      have z : (c.hid c.X0 H) a = some o := wo_of (fun q => (List.mem_append.mp q).elim (rp.xm a ha) h0) e fun ps q => rp.xt a ha ps (by rw [e, q])
      rw [e]
      exact wo_sub _ _ _ _ (a1.sub a o z)
  have sb : Sub (c.hid s.X H) (c.hid s.X H1) := fun a o h => by
    obtain ⟨h1, h2, h3⟩ := wo_all h
    have z : (c.hid c.X0 H) a = some o := wo_of (fun q => h1 (List.mem_append.mpr ((List.mem_append.mp q).imp id (rp.x0 a)))) h2 h3
    exact wo_of h1 (wo_sub _ _ _ _ (a1.sub a o z)) h3
  exact ⟨rp.step sb (fun a ha _ => on a ha) r1.m r1.tb, sb, on⟩
end
abbrev dFrzT (t : DT) : DT := fun s Q => ∀ X, t ⟨X, s.sl.map Sl.frz, s.k⟩ fun b k => Q b k
section
variable {X : Cx} {c : C} {pos : Pos}
theorem ptd_frzT {e : Expr} {t : DT} (h : PT X e (LT c t)) : PT X e (LT c (dFrzT t)) := h.weak fun σ H Q ⟨s, R, rp, q, f⟩ => ⟨⟨c.X0, s.sl.map Sl.frz, s.k⟩, _, rp.frz, q c.X0, fun d k hR H1 r1 a1 => by
  have b := rp.backF r1 a1
  exact f d k hR H1 b.1 b.2⟩
end
end DL
set_option maxHeartbeats 1000000
namespace BW
open PySem L2 DL
theorem mem_fallX {r : List Int} {i : Nat} (hi : i < r.length) (h : r.getD i 0 < 0) : (i : Int) + 1 ∈ fall r := by
  unfold fall
  exact List.mem_map.mpr ⟨i, List.mem_filter.mpr ⟨List.mem_range.mpr hi, decide_eq_true h⟩, rfl⟩
section
variable {BC : Addr} {DD : DEnds} {T : Mat} {w c u : List Int} {X : List Addr} {k : Nat} {x2 x3 x4 x5 x6 x7 x8 x9 x10 x11 x12 x13 : Sl}
theorem f1 : ptf T17 [1] [2, 1, 2] = [1, 2] ∧ ptr T17 [1] [2, 1, 2] = [1] := by decide +kernel
theorem f2 : pbf T17 [1] [2, 1, 2] = [2, 1] ∧ pbr T17 [1] [2, 1, 2] = [1] := by decide +kernel
theorem f3 : ptf T17 [] [1, 2] = [1, 2] ∧ ptr T17 [] [1, 2] = [] := by decide +kernel
theorem f4 : ptf T17 [1, 2] [1, 2] = [] ∧ ptr T17 [1, 2] [1, 2] = [1, 2] := by decide +kernel
end
end BW
set_option autoImplicit false
set_option maxHeartbeats 1000000
namespace BW
open PySem L2 DL
def shf (M : Mat) (o : List Nat) : Mat := o.map fun i => o.map fun j => at2 M i j
def Sqr (n : Nat) (M : Mat) : Prop := M.length = n ∧ ∀ i, i < n → (M.getD i []).length = n
def sp__law_shuffled : DSp := fun ds k R => ∃ (n : Nat) (M : Mat), ds = [lM M] ∧ Sqr n M ∧ n ≤ 60 ∧ k < 90000000000 ∧ ∀ o k', o.Perm (List.range n) → k ≤ k' → k' ≤ k + n → R (lM (shf M o)) k'
abbrev t__law_shuffled : DS := (dSeq (dPar2 2 3 (dxO (dLr1 (dLenN 1)) (dxO (dLs dNil) dxN)))
  (dSeq (dWhile (dFrzT (dTB (dOp oNe (dVar 2) (dFr (dLs dNil))))) (dAppPop 3 2 (dCallM 0 sp__law_draw (dCons (dLenN 2) dNil))))
  (dRet (dFr (dLc (iLst (dVar 3)) (dgN 4) dY (dFr (dLc (iLst (dVar 3)) (dgN 5) dY (dOp oIx (dIxN 1 (dVar 4)) (dVar 5)) [5])) [4])))))
theorem perm_at {α : Type} : ∀ {r : List α} {z : Nat} {y : α}, r[z]? = some y → (y :: r.eraseIdx z).Perm r
  | a :: r, 0, y, h => by
    cases h
    exact List.Perm.refl _
  | a :: r, z + 1, y, h => by
    have ih := perm_at (r := r) (z := z) (y := y) h
    exact (List.Perm.swap a y _).trans (ih.cons a)
theorem perm_pop {α : Type} {o r : List α} {z : Nat} {y : α} {L : List α} (h : (o ++ r).Perm L) (hz : r[z]? = some y) : ((o ++ [y]) ++ r.eraseIdx z).Perm L := by
  refine List.Perm.trans ?_ h
  rw [List.append_assoc]
  exact List.Perm.append_left o (perm_at hz)
theorem map_erase {α β : Type} (f : α → β) : ∀ (r : List α) (z : Nat), (r.map f).eraseIdx z = (r.eraseIdx z).map f
  | [], _ => rfl
  | _ :: _, 0 => rfl
  | a :: r, z + 1 => by
    show f a :: (r.map f).eraseIdx z = f a :: (r.eraseIdx z).map f
    rw [map_erase f r z]
abbrev nI (o : List Nat) : List D := o.map fun i : Nat => D.int i
theorem rng_nI (n : Nat) : rngD 0 n = nI (List.range n) := by
  unfold rngD
  exact List.map_congr_left fun i _ => by rw [Int.zero_add]
theorem nI_int (o : List Nat) : nI o = (o.map fun i : Nat => (i : Int)).map D.int := by rw [List.map_map]; rfl
theorem ne_nI {r : List Nat} {Q : D → Prop} (q : ∀ b, (b = true ↔ r ≠ []) → Q (.bl b)) : oNe (D.lst (nI r)) (D.lst []) Q := by
  rw [nI_int]
  refine ⟨okE_lstI _, okE_lstI [], ?_⟩
  rw [show PyData.eqv (D.lst ((r.map fun i : Nat => (i : Int)).map D.int)).py (D.lst []).py = decide ((r.map fun i : Nat => (i : Int)) = []) from eqv_lstI _ []]
  refine q _ ?_
  cases r with
  | nil => exact ⟨fun h => (nomatch h), fun h => absurd rfl h⟩
  | cons a r => exact ⟨fun _ => List.cons_ne_nil _ _, fun _ => rfl⟩
abbrev slSh (M : Mat) (p q : Addr) (r o : List Nat) (x4 x5 : Sl) : List Sl := [.mst, .dat (lM M), .own p (nI r), .own q (nI o), x4, x5]
theorem r__law_shuffled (X : List Addr) (ds : List D) (k : Nat) (R : D → Nat → Prop) (h : sp__law_shuffled ds k R) : t__law_shuffled (En R) (St0 true 6 ds X k) := by
  obtain ⟨n, M, rfl, ⟨hn, hs⟩, h60, hk, h⟩ := h
  have lm : (M.map lI).length = n := by rw [List.length_map, hn]
  refine ⟨_, rfl, _, rfl, by rw [lm]; omega, by rw [lm]; omega, fun p hp => ⟨by show 0 ≤ lim; decide, fun q hq => ?_⟩⟩
  rw [lm, Int.toNat_natCast, rng_nI]
  refine ⟨fun m s' => ∃ (r o : List Nat) (X2 : List Addr) (k' : Nat), s' = ⟨X2, slSh M p q r o .no .no, k'⟩ ∧ m = r.length ∧ (o ++ r).Perm (List.range n) ∧ k' = k + o.length, ⟨n, List.range n, [], _, k, rfl, (List.length_range).symm, List.Perm.refl _, rfl⟩, ?_⟩
  rintro m s' ⟨r, o, X2, k', rfl, rfl, pm, rfl⟩ X3
  have pl := pm.length_eq
  rw [List.length_append, List.length_range] at pl
  refine ⟨_, rfl, by show 0 ≤ lim; decide, ne_nI fun b hb => ⟨_, rfl, ?_⟩⟩
  cases b with
  | true =>
    refine iteT ?_
    have hr := hb.mp rfl
    have hr2 := List.length_pos_iff.mpr hr
    have lr : (nI r).length = r.length := List.length_map ..
    refine ⟨q, nI o, p, nI r, rfl, rfl, by decide, rfl, _, rfl, (r.length : Int), by rw [lr], by omega, by omega, by show k + o.length < _; omega, fun z z0 z1 => ?_⟩
    have hz : r[z.toNat]? = some r[z.toNat] := List.getElem?_eq_getElem (by omega)
    refine ⟨z.toNat, .int r[z.toNat], by rw [Int.toNat_of_nonneg z0], by omega, by rw [List.getElem?_map, hz]; rfl, by rw [List.length_map]; exact Nat.lt_of_le_of_lt (by omega : o.length ≤ 60) (by decide), ?_⟩
    refine ⟨(r.eraseIdx z.toNat).length, by rw [List.length_eraseIdx_of_lt (by omega)]; omega, r.eraseIdx z.toNat, o ++ [r[z.toNat]], X2, k + o.length + 1, ?_, rfl, perm_pop pm hz, by rw [List.length_append]; rfl⟩
    show (⟨X2, [.mst, .dat (lM M), .own p ((nI r).eraseIdx z.toNat), .own q (nI o ++ [.int r[z.toNat]]), .no, .no], k + o.length + 1⟩ : S) = _
    rw [map_erase]
    show _ = (⟨X2, [.mst, .dat (lM M), .own p (nI (r.eraseIdx z.toNat)), .own q (nI (o ++ [r[z.toNat]])), .no, .no], k + o.length + 1⟩ : S)
    rw [show nI (o ++ [r[z.toNat]]) = nI o ++ [.int r[z.toNat]] from List.map_append ..]
  | false =>
    refine iteF ?_
    have hr : r = [] := Classical.byContradiction fun z => (nomatch hb.mpr z)
    subst hr
    rw [List.append_nil] at pm
    have ol : o.length = n := by rw [pm.length_eq, List.length_range]
    have om : ∀ i ∈ o, i < n := fun i hi => List.mem_range.mp (pm.subset hi)
    refine fun X4 => ⟨_, rfl, _, rfl, by rw [List.length_map]; exact Nat.le_trans (by omega : o.length ≤ 60) (by decide), fun pa hpa => ⟨fun j acc k2 => k2 = k + o.length ∧ acc = ((o.take j).map fun i => o.map fun l => at2 M i l).map lI, ⟨rfl, rfl⟩, ?_, ?_⟩⟩
    · rintro j e acc k2 he ⟨rfl, rfl⟩ _
      rw [List.getElem?_map] at he
      obtain ⟨i, hi, rfl⟩ := Option.map_eq_some_iff.mp he
      have il := om i (List.mem_of_getElem? hi)
      refine iteT ⟨_, rfl, _, rfl, by rw [List.length_map]; exact Nat.le_trans (by omega : o.length ≤ 60) (by decide), fun pb hpb => ⟨fun j2 acc2 k3 => k3 = k + o.length ∧ acc2 = ((o.take j2).map fun l => at2 M i l).map D.int, ⟨rfl, rfl⟩, ?_, ?_⟩⟩
      · rintro j2 e2 acc2 k3 he2 ⟨rfl, rfl⟩ _
        rw [List.getElem?_map] at he2
        obtain ⟨l, hl, rfl⟩ := Option.map_eq_some_iff.mp he2
        have ll := om l (List.mem_of_getElem? hl)
        have g1 : atI (M.map lI) (i : Int) = some (lI (M.getD i [])) := atI_nat (by rw [List.getElem?_map, getD_get (d := []) (by omega)]; rfl)
        have g2 : atI ((M.getD i []).map D.int) (l : Int) = some (.int (at2 M i l)) := atI_nat (by rw [List.getElem?_map, getD_get (d := 0) (by rw [hs i il]; exact ll)]; rfl)
        refine iteT ⟨_, rfl, _, rfl, (i : Int), _, rfl, g1, _, rfl, _, _, rfl, g2, rfl, ?_⟩
        rw [List.take_succ, hl, List.map_append, List.map_append]; rfl
      · rintro acc2 k3 ⟨rfl, rfl⟩ _
        rw [List.length_map, List.take_length]
        refine ⟨rfl, ?_⟩
        rw [List.take_succ, hi, List.map_append, List.map_append]; rfl
    · rintro acc k2 ⟨rfl, rfl⟩ _
      rw [List.length_map, List.take_length]
      exact h o _ pm (by omega) (by omega)
end BW
set_option autoImplicit false
set_option maxHeartbeats 1000000
namespace BW
open PySem L2 DL
abbrev Tri := Mat × Int × Int
abbrev FL : List Tri := [([], 1, 0), ([[1]], 2, 1), ([[1, 3], [3, 1]], 6, 3), ([[1, 4], [4, 1]], 8, 4), ([[1, 6], [6, 1]], 12, 6), ([[1, 3, 2], [3, 1, 3], [2, 3, 1]], 24, 6), ([[1, 4, 2], [4, 1, 3], [2, 3, 1]], 48, 9), ([[1, 3, 2, 2], [3, 1, 3, 2], [2, 3, 1, 3], [2, 2, 3, 1]], 120, 10), ([[1, 2, 3, 2], [2, 1, 3, 2], [3, 3, 1, 3], [2, 2, 3, 1]], 192, 12)]
def trD (x : Tri) : D := .tup [lM x.1, .int x.2.1, .int x.2.2]
def prodM (A B : Mat) : Mat := (A.map fun r => r ++ List.replicate B.length 2) ++ B.map fun r => List.replicate A.length 2 ++ r
structure FinT (most : Nat) (T : Mat) (w l : Int) : Prop where
  h : ∃ (a b : Tri) (o : List Nat), a ∈ FL ∧ b ∈ FL ∧ 1 ≤ a.1.length ∧ a.1.length + b.1.length ≤ most ∧ o.Perm (List.range (a.1.length + b.1.length)) ∧ T = shf (prodM a.1 b.1) o ∧ w = a.2.1 * b.2.1 ∧ l = a.2.2 + b.2.2
def sp__law_finite : DSp := fun ds k R => ∃ most : Nat, ds = [.int most] ∧ 1 ≤ most ∧ most ≤ 6 ∧ k < 80000000000 ∧ ∀ T w l k', FinT most T w l → k ≤ k' → k' ≤ k + 10 → R (.lst [lM T, .int w, .int l]) k'
abbrev t_fina : DS := (dSetO 2 (dLs (dCons (dTup (dCons (dFr (dLs dNil)) (dCons (dC (.int 1)) (dCons (dC (.int 0)) dNil)))) dNil)))
abbrev t_finb : DS := (dFor (iLst (dFr (dLs (dCons (dTup (dCons (dFr (dLs (dCons (dFr (dLs (dCons (dC (.int 1)) dNil))) dNil))) (dCons (dC (.int 2)) (dCons (dC (.int 1)) dNil)))) (dCons (dTup (dCons (dFr (dLs (dCons (dFr (dLs (dCons (dC (.int 1)) (dCons (dC (.int 3)) dNil)))) (dCons (dFr (dLs (dCons (dC (.int 3)) (dCons (dC (.int 1)) dNil)))) dNil)))) (dCons (dC (.int 6)) (dCons (dC (.int 3)) dNil)))) (dCons (dTup (dCons (dFr (dLs (dCons (dFr (dLs (dCons (dC (.int 1)) (dCons (dC (.int 4)) dNil)))) (dCons (dFr (dLs (dCons (dC (.int 4)) (dCons (dC (.int 1)) dNil)))) dNil)))) (dCons (dC (.int 8)) (dCons (dC (.int 4)) dNil)))) dNil)))))) (dgTup 3 (dgCons (dgN 3) (dgCons (dgN 4) (dgCons (dgN 5) dgNil)))) (dApp 2 (dTup (dCons (dVar 3) (dCons (dVar 4) (dCons (dVar 5) dNil))))))
abbrev t_finc : DS := (dApp 2 (dTup (dCons (dFr (dLs (dCons (dFr (dLs (dCons (dC (.int 1)) (dCons (dC (.int 6)) dNil)))) (dCons (dFr (dLs (dCons (dC (.int 6)) (dCons (dC (.int 1)) dNil)))) dNil)))) (dCons (dC (.int 12)) (dCons (dC (.int 6)) dNil)))))
abbrev t_find : DS := (dApp 2 (dTup (dCons (dFr (dLs (dCons (dFr (dLs (dCons (dC (.int 1)) (dCons (dC (.int 3)) (dCons (dC (.int 2)) dNil))))) (dCons (dFr (dLs (dCons (dC (.int 3)) (dCons (dC (.int 1)) (dCons (dC (.int 3)) dNil))))) (dCons (dFr (dLs (dCons (dC (.int 2)) (dCons (dC (.int 3)) (dCons (dC (.int 1)) dNil))))) dNil))))) (dCons (dC (.int 24)) (dCons (dC (.int 6)) dNil)))))
abbrev t_fine : DS := (dApp 2 (dTup (dCons (dFr (dLs (dCons (dFr (dLs (dCons (dC (.int 1)) (dCons (dC (.int 4)) (dCons (dC (.int 2)) dNil))))) (dCons (dFr (dLs (dCons (dC (.int 4)) (dCons (dC (.int 1)) (dCons (dC (.int 3)) dNil))))) (dCons (dFr (dLs (dCons (dC (.int 2)) (dCons (dC (.int 3)) (dCons (dC (.int 1)) dNil))))) dNil))))) (dCons (dC (.int 48)) (dCons (dC (.int 9)) dNil)))))
abbrev t_finf : DS := (dApp 2 (dTup (dCons (dFr (dLs (dCons (dFr (dLs (dCons (dC (.int 1)) (dCons (dC (.int 3)) (dCons (dC (.int 2)) (dCons (dC (.int 2)) dNil)))))) (dCons (dFr (dLs (dCons (dC (.int 3)) (dCons (dC (.int 1)) (dCons (dC (.int 3)) (dCons (dC (.int 2)) dNil)))))) (dCons (dFr (dLs (dCons (dC (.int 2)) (dCons (dC (.int 3)) (dCons (dC (.int 1)) (dCons (dC (.int 3)) dNil)))))) (dCons (dFr (dLs (dCons (dC (.int 2)) (dCons (dC (.int 2)) (dCons (dC (.int 3)) (dCons (dC (.int 1)) dNil)))))) dNil)))))) (dCons (dC (.int 120)) (dCons (dC (.int 10)) dNil)))))
abbrev t_fing : DS := (dApp 2 (dTup (dCons (dFr (dLs (dCons (dFr (dLs (dCons (dC (.int 1)) (dCons (dC (.int 2)) (dCons (dC (.int 3)) (dCons (dC (.int 2)) dNil)))))) (dCons (dFr (dLs (dCons (dC (.int 2)) (dCons (dC (.int 1)) (dCons (dC (.int 3)) (dCons (dC (.int 2)) dNil)))))) (dCons (dFr (dLs (dCons (dC (.int 3)) (dCons (dC (.int 3)) (dCons (dC (.int 1)) (dCons (dC (.int 3)) dNil)))))) (dCons (dFr (dLs (dCons (dC (.int 2)) (dCons (dC (.int 2)) (dCons (dC (.int 3)) (dCons (dC (.int 1)) dNil)))))) dNil)))))) (dCons (dC (.int 192)) (dCons (dC (.int 12)) dNil)))))
abbrev t_finh : DS := (dFrzS (dSetO 2 (dLc (iLst (dVar 2)) (dgN 11) (dTB (dOp oLe (dLen (dIxN 11 (dC (.int 0)))) (dVar 1))) (dVar 11) [11])))
abbrev t_fini : DS := (dSet 6 (dIxN 2 (dOp oAdd (dC (.int 1)) (dCallM 0 sp__law_draw (dCons (dOp oSub (dLenN 2) (dC (.int 1))) dNil)))))
abbrev t_finj : DS := (dFrzS (dSet 7 (dFr (dLc (iLst (dVar 2)) (dgN 11) (dTB (dOp oLe (dOp oAdd (dLen (dIxN 11 (dC (.int 0)))) (dLen (dIxN 6 (dC (.int 0))))) (dVar 1))) (dVar 11) [11]))))
abbrev t_fink : DS := (dSet 8 (dIxN 7 (dCallM 0 sp__law_draw (dCons (dLenN 7) dNil))))
abbrev t_finl : DS := (dPar2 9 10 (dxD (dLen (dIxN 6 (dC (.int 0)))) (dxD (dLen (dIxN 8 (dC (.int 0)))) dxN)))
abbrev t_finm : DS := (dSet 3 (dOp oAdd (dFr (dLc (iLst (dIxN 6 (dC (.int 0)))) (dgN 12) dY (dOp oAdd (dFr (dLstN 12)) (dOp oMul (dFr (dLs (dCons (dC (.int 2)) dNil))) (dVar 10))) [12])) (dFr (dLc (iLst (dIxN 8 (dC (.int 0)))) (dgN 12) dY (dOp oAdd (dOp oMul (dFr (dLs (dCons (dC (.int 2)) dNil))) (dVar 9)) (dFr (dLstN 12))) [12]))))
abbrev t_finn : DS := (dRet (dFr (dLs (dCons (dCallM 0 sp__law_shuffled (dCons (dVar 3) dNil)) (dCons (dOp oMul (dIxN 6 (dC (.int 1))) (dIxN 8 (dC (.int 1)))) (dCons (dOp oAdd (dIxN 6 (dC (.int 2))) (dIxN 8 (dC (.int 2)))) dNil))))))
abbrev t__law_finite : DS := (dSeq t_fina (dSeq t_finb (dSeq t_finc (dSeq t_find (dSeq t_fine (dSeq t_finf (dSeq t_fing (dSeq t_finh (dSeq t_fini (dSeq t_finj (dSeq t_fink (dSeq t_finl (dSeq t_finm t_finn)))))))))))))
abbrev slF (most : Nat) (p : Addr) (L : List Tri) (x3 x4 x5 x6 x7 x8 x9 x10 x11 x12 : Sl) : List Sl := [.mst, .dat (.int most), .own p (L.map trD), x3, x4, x5, x6, x7, x8, x9, x10, x11, x12]
section
variable {DD : DEnds} {most : Nat} {X : List Addr} {k : Nat} {p : Addr} {L : List Tri} {x2 x3 x4 x5 x6 x7 x8 x9 x10 x11 x12 : Sl}
theorem r_fina (fin : ∀ X p, DD.nx ⟨X, slF most p (FL.take 1) x3 x4 x5 x6 x7 x8 x9 x10 x11 x12, k⟩) : t_fina DD ⟨X, [.mst, .dat (.int most), x2, x3, x4, x5, x6, x7, x8, x9, x10, x11, x12], k⟩ := by
  refine ⟨by show 0 ≤ lim; decide, by show 3 ≤ lim; decide, by show 1 ≤ lim; decide, fun p hp => fin _ _⟩
theorem r_finb (fin : ∀ x3 x4 x5, DD.nx ⟨X, slF most p (FL.take 4) x3 x4 x5 x6 x7 x8 x9 x10 x11 x12, k⟩) : t_finb DD ⟨X, slF most p (FL.take 1) x3 x4 x5 x6 x7 x8 x9 x10 x11 x12, k⟩ := by
  have l1 : (1 : Nat) ≤ lim := by decide
  have l2 : (2 : Nat) ≤ lim := by decide
  have l3 : (3 : Nat) ≤ lim := by decide
  refine ⟨l1, l1, l3, l2, l2, l2, l3, l2, l2, l2, l3, l3, _, rfl, fun i s' => ∃ x3 x4 x5, s' = ⟨X, slF most p (FL.take (1 + i)) x3 x4 x5 x6 x7 x8 x9 x10 x11 x12, k⟩, ⟨_, _, _, rfl⟩, ?_, ?_⟩
  · rintro i e s' he ⟨y3, y4, y5, rfl⟩
    have hi : i < 3 := (List.getElem?_eq_some_iff.mp he).1
    have go : ∀ x : Tri, e = trD x → FL[1 + i]? = some x → (dgTup 3 (dgCons (dgN 3) (dgCons (dgN 4) (dgCons (dgN 5) dgNil)))) e ⟨X, slF most p (FL.take (1 + i)) y3 y4 y5 x6 x7 x8 x9 x10 x11 x12, k⟩ fun s2 => (dApp 2 (dTup (dCons (dVar 3) (dCons (dVar 4) (dCons (dVar 5) dNil))))) { DD with nx := fun s' => ∃ x3 x4 x5, s' = ⟨X, slF most p (FL.take (1 + (i + 1))) x3 x4 x5 x6 x7 x8 x9 x10 x11 x12, k⟩, ct := fun s' => ∃ x3 x4 x5, s' = ⟨X, slF most p (FL.take (1 + (i + 1))) x3 x4 x5 x6 x7 x8 x9 x10 x11 x12, k⟩, bk := DD.nx } s2 := by
      rintro x rfl hx
      have lt : ((FL.take (1 + i)).map trD).length ≤ 4 := by
        rw [List.length_map, List.length_take]
        omega
      refine ⟨rfl, rfl, p, _, rfl, _, rfl, _, rfl, _, rfl, l3, Nat.lt_of_le_of_lt lt (by decide), .dat (lM x.1), .dat (.int x.2.1), .dat (.int x.2.2), ?_⟩
      have e : FL.take (1 + (i + 1)) = FL.take (1 + i) ++ [x] := by
        rw [← Nat.add_assoc, List.take_succ, hx]; rfl
      rw [e]
      show (⟨X, [.mst, .dat (.int most), .own p ((FL.take (1 + i)).map trD ++ [trD x]), _, _, _, x6, x7, x8, x9, x10, x11, x12], k⟩ : S) = ⟨X, [.mst, .dat (.int most), .own p ((FL.take (1 + i) ++ [x]).map trD), _, _, _, x6, x7, x8, x9, x10, x11, x12], k⟩
      rw [List.map_append]
      rfl
    rcases (by omega : i = 0 ∨ i = 1 ∨ i = 2) with rfl | rfl | rfl
    · cases he; exact go _ rfl rfl
    · cases he; exact go _ rfl rfl
    · cases he; exact go _ rfl rfl
  · rintro s' ⟨y3, y4, y5, rfl⟩
    exact fin _ _ _
theorem r_app1 {t : DE} {y : D} (x : Tri) (hl : L.length ≤ 9) (h : ∀ {Q : D → Nat → Prop}, Q (trD x) k → t ⟨X, slF most p L x3 x4 x5 x6 x7 x8 x9 x10 x11 x12, k⟩ Q) (fin : DD.nx ⟨X, slF most p (L ++ [x]) x3 x4 x5 x6 x7 x8 x9 x10 x11 x12, k⟩) : dApp 2 t DD ⟨X, slF most p L x3 x4 x5 x6 x7 x8 x9 x10 x11 x12, k⟩ := by
  refine ⟨p, _, rfl, h ⟨Nat.lt_of_le_of_lt (by rw [List.length_map]; exact hl) (by decide), ?_⟩⟩
  show DD.nx ⟨X, [.mst, .dat (.int most), .own p (L.map trD ++ [trD x]), x3, x4, x5, x6, x7, x8, x9, x10, x11, x12], k⟩
  rw [show L.map trD ++ [trD x] = (L ++ [x]).map trD from (List.map_append (f := trD) (l₁ := L) (l₂ := [x])).symm]
  exact fin
theorem lm1 : (1 : Nat) ≤ lim := by decide
theorem lm2 : (2 : Nat) ≤ lim := by decide
theorem lm3 : (3 : Nat) ≤ lim := by decide
theorem lm4 : (4 : Nat) ≤ lim := by decide
theorem r_fing (fin : DD.nx ⟨X, slF most p FL x3 x4 x5 x6 x7 x8 x9 x10 x11 x12, k⟩) : dSeq t_finc (dSeq t_find (dSeq t_fine (dSeq t_finf t_fing))) DD ⟨X, slF most p (FL.take 4) x3 x4 x5 x6 x7 x8 x9 x10 x11 x12, k⟩ := by
  refine r_app1 (y := .non) ([[1, 6], [6, 1]], 12, 6) (by decide) (fun q => ⟨lm2, lm2, lm2, lm3, q⟩) ?_
  refine r_app1 (y := .non) ([[1, 3, 2], [3, 1, 3], [2, 3, 1]], 24, 6) (by decide) (fun q => ⟨lm3, lm3, lm3, lm3, lm3, q⟩) ?_
  refine r_app1 (y := .non) ([[1, 4, 2], [4, 1, 3], [2, 3, 1]], 48, 9) (by decide) (fun q => ⟨lm3, lm3, lm3, lm3, lm3, q⟩) ?_
  refine r_app1 (y := .non) ([[1, 3, 2, 2], [3, 1, 3, 2], [2, 3, 1, 3], [2, 2, 3, 1]], 120, 10) (by decide) (fun q => ⟨lm4, lm4, lm4, lm4, lm4, lm3, q⟩) ?_
  exact r_app1 (y := .non) ([[1, 2, 3, 2], [2, 1, 3, 2], [3, 3, 1, 3], [2, 2, 3, 1]], 192, 12) (by decide) (fun q => ⟨lm4, lm4, lm4, lm4, lm4, lm3, q⟩) fin
def FLm (most : Nat) : List Tri := FL.filter fun x => decide ((x.1.length : Int) ≤ most)
def FLr (most : Nat) (a : Tri) : List Tri := (FLm most).filter fun x => decide ((x.1.length : Int) + a.1.length ≤ most)
theorem trD_len (x : Tri) : ((x.1.map lI).length : Int) = x.1.length := by rw [List.length_map]
theorem r_finh (fin : ∀ X p x3 x4 x5 x6 x7 x8 x9 x10 x11 x12, DD.nx ⟨X, slF most p (FLm most) x3 x4 x5 x6 x7 x8 x9 x10 x11 x12, k⟩) : t_finh DD ⟨X, slF most p FL x3 x4 x5 x6 x7 x8 x9 x10 x11 x12, k⟩ := by
  intro X2
  refine ⟨_, rfl, _, rfl, by show 9 ≤ lim; decide, fun p1 hp1 => ⟨fun j acc k' => k' = k ∧ acc = ((FL.take j).filter fun x => decide ((x.1.length : Int) ≤ most)).map trD, ⟨rfl, rfl⟩, ?_, ?_⟩⟩
  · rintro j e acc k' he ⟨rfl, rfl⟩ _
    have he : (FL.map trD)[j]? = some e := he
    rw [List.getElem?_map] at he
    obtain ⟨x, hx, rfl⟩ := Option.map_eq_some_iff.mp he
    have tk : FL.take (j + 1) = FL.take j ++ [x] := by rw [List.take_succ, hx]; rfl
    refine ⟨_, rfl, 0, lM x.1, rfl, rfl, _, rfl, _, rfl, decide ((x.1.length : Int) ≤ most), by rw [trD_len], ?_⟩
    by_cases c : (x.1.length : Int) ≤ most
    · rw [decide_eq_true c]
      refine iteT ⟨_, rfl, rfl, ?_⟩
      rw [tk, List.filter_append, List.map_append]
      rw [show [x].filter (fun x : Tri => decide ((x.1.length : Int) ≤ most)) = [x] from List.filter_cons_of_pos (decide_eq_true c)]
      rfl
    · rw [decide_eq_false c]
      refine iteF ⟨rfl, ?_⟩
      rw [tk, List.filter_append, List.map_append]
      rw [show [x].filter (fun x : Tri => decide ((x.1.length : Int) ≤ most)) = [] from List.filter_cons_of_neg (by rw [decide_eq_false c]; decide)]
      exact (List.append_nil _).symm
  · rintro acc k' ⟨rfl, rfl⟩ _
    refine fun p2 hp2 => ?_
    rw [List.length_map, List.take_length]
    exact fin _ _ _ _ _ _ _ _ _ _ _ _
end
structure Fst (most : Nat) (a : Tri) : Prop where
  mem : a ∈ FL
  pos : 1 ≤ a.1.length
  le : a.1.length ≤ most
theorem FL_small : ∀ x ∈ FL, x.1.length ≤ 4 ∧ -200 ≤ x.2.1 ∧ x.2.1 ≤ 200 := by decide
theorem FLm_at {most : Nat} (h1 : 1 ≤ most) : ∃ L, FLm most = ([], 1, 0) :: L ∧ 1 ≤ L.length ∧ L.length ≤ 8 ∧ ∀ a ∈ L, Fst most a := by
  have e0 : decide (((([] : Mat).length : Nat) : Int) ≤ (most : Int)) = true := decide_eq_true (by show (0 : Int) ≤ most; omega)
  have e1 : decide (((([[1]] : Mat).length : Nat) : Int) ≤ (most : Int)) = true := decide_eq_true (by show (1 : Int) ≤ most; omega)
  refine ⟨(FL.drop 1).filter fun x => decide ((x.1.length : Int) ≤ most), ?_, ?_, ?_, ?_⟩
  · show (([], 1, 0) :: FL.drop 1).filter (fun x : Tri => decide ((x.1.length : Int) ≤ most)) = _
    exact List.filter_cons_of_pos e0
  · show 1 ≤ ((([[1]], 2, 1) :: FL.drop 2).filter (fun x : Tri => decide ((x.1.length : Int) ≤ most))).length
    exact List.length_pos_of_mem (List.mem_filter.mpr ⟨List.mem_cons_self, e1⟩)
  · exact Nat.le_trans (List.length_filter_le _ _) (by decide)
  · intro a ha
    obtain ⟨h2, h3⟩ := List.mem_filter.mp ha
    have h3 := of_decide_eq_true h3
    have hp : ∀ x ∈ FL.drop 1, 1 ≤ x.1.length := by decide
    exact ⟨List.mem_of_mem_drop h2, hp a h2, by omega⟩
section
variable {DD : DEnds} {most : Nat} {X : List Addr} {k : Nat} {p : Addr} {L : List Tri} {a b : Tri} {x2 x3 x4 x5 x6 x7 x8 x9 x10 x11 x12 : Sl}
theorem r_fini (h1 : 1 ≤ most) (hk : k < 90000000000) (fin : ∀ a, Fst most a → DD.nx ⟨X, slF most p (FLm most) x3 x4 x5 (.dat (trD a)) x7 x8 x9 x10 x11 x12, k + 1⟩) : t_fini DD ⟨X, slF most p (FLm most) x3 x4 x5 x6 x7 x8 x9 x10 x11 x12, k⟩ := by
  obtain ⟨L, e, l1, l8, hL⟩ := FLm_at h1
  have lm : ((FLm most).map trD).length = L.length + 1 := by rw [List.length_map, e, List.length_cons]
  refine ⟨_, rfl, rfl, _, rfl, (L.length : Int), by rw [lm, show ((L.length + 1 : Nat) : Int) - 1 = (L.length : Int) by omega], by omega, by omega, by show k < _; omega, fun z z0 z1 => ?_⟩
  have hz : L[z.toNat]? = some L[z.toNat] := List.getElem?_eq_getElem (by omega)
  have hm := List.mem_of_getElem? hz
  refine ⟨1 + z, trD L[z.toNat], rfl, ?_, fin _ (hL _ hm)⟩
  have q : atI ((FLm most).map trD) ((z.toNat + 1 : Nat) : Int) = some (trD L[z.toNat]) := atI_nat (by rw [List.getElem?_map, e, List.getElem?_cons_succ, hz]; rfl)
  have e2 : ((z.toNat + 1 : Nat) : Int) = 1 + z := by omega
  rw [e2] at q
  exact q
theorem r_finj (fin : ∀ X x2 x3 x4 x5 x8 x9 x10 x11 x12, DD.nx ⟨X, [.mst, .dat (.int most), x2, x3, x4, x5, .dat (trD a), .dat (.lst ((FLr most a).map trD)), x8, x9, x10, x11, x12], k⟩) : t_finj DD ⟨X, slF most p (FLm most) x3 x4 x5 (.dat (trD a)) x7 x8 x9 x10 x11 x12, k⟩ := by
  intro X2
  have l9 : (FLm most).length ≤ 9 := Nat.le_trans (List.length_filter_le _ _) (by decide)
  have lm : ((FLm most).map trD).length = (FLm most).length := List.length_map ..
  refine ⟨_, rfl, _, rfl, by rw [lm]; exact Nat.le_trans l9 (by decide), fun p1 hp1 => ⟨fun j acc k' => k' = k ∧ acc = (((FLm most).take j).filter fun x => decide ((x.1.length : Int) + a.1.length ≤ most)).map trD, ⟨rfl, rfl⟩, ?_, ?_⟩⟩
  · rintro j e acc k' he ⟨rfl, rfl⟩ _
    have he : ((FLm most).map trD)[j]? = some e := he
    rw [List.getElem?_map] at he
    obtain ⟨x, hx, rfl⟩ := Option.map_eq_some_iff.mp he
    have tk : (FLm most).take (j + 1) = (FLm most).take j ++ [x] := by rw [List.take_succ, hx]; rfl
    refine ⟨_, rfl, 0, lM x.1, rfl, rfl, _, rfl, _, rfl, 0, lM a.1, rfl, rfl, _, rfl, _, rfl, decide ((x.1.length : Int) + a.1.length ≤ most), by rw [trD_len, trD_len], ?_⟩
    by_cases c : (x.1.length : Int) + a.1.length ≤ most
    · rw [decide_eq_true c]
      refine iteT ⟨_, rfl, rfl, ?_⟩
      rw [tk, List.filter_append, List.map_append]
      rw [show [x].filter (fun x : Tri => decide ((x.1.length : Int) + a.1.length ≤ most)) = [x] from List.filter_cons_of_pos (decide_eq_true c)]
      rfl
    · rw [decide_eq_false c]
      refine iteF ⟨rfl, ?_⟩
      rw [tk, List.filter_append, List.map_append]
      rw [show [x].filter (fun x : Tri => decide ((x.1.length : Int) + a.1.length ≤ most)) = [] from List.filter_cons_of_neg (by rw [decide_eq_false c]; decide)]
      exact (List.append_nil _).symm
  · rintro acc k' ⟨rfl, rfl⟩ _
    rw [lm, List.take_length]
    exact fin _ _ _ _ _ _ _ _ _ _
abbrev slG (most : Nat) (a : Tri) (x2 x3 x4 x5 x7 x8 x9 x10 x11 x12 : Sl) : List Sl := [.mst, .dat (.int most), x2, x3, x4, x5, .dat (trD a), x7, x8, x9, x10, x11, x12]
theorem r_fink (f : Fst most a) (hk : k < 90000000000) (fin : ∀ b ∈ FL, a.1.length + b.1.length ≤ most → DD.nx ⟨X, slG most a x2 x3 x4 x5 (.dat (.lst ((FLr most a).map trD))) (.dat (trD b)) x9 x10 x11 x12, k + 1⟩) : t_fink DD ⟨X, slG most a x2 x3 x4 x5 (.dat (.lst ((FLr most a).map trD))) x8 x9 x10 x11 x12, k⟩ := by
  have h1 : 1 ≤ most := Nat.le_trans f.pos f.le
  have m0 : (([], 1, 0) : Tri) ∈ FLr most a := by
    obtain ⟨L, e, _⟩ := FLm_at h1
    refine List.mem_filter.mpr ⟨by rw [e]; exact List.mem_cons_self, decide_eq_true ?_⟩
    have := f.le
    show (0 : Int) + a.1.length ≤ most
    omega
  have lp := List.length_pos_of_mem m0
  have l9 : (FLr most a).length ≤ 9 := Nat.le_trans (List.length_filter_le _ _) (Nat.le_trans (List.length_filter_le _ _) (by decide))
  have lm : ((FLr most a).map trD).length = (FLr most a).length := List.length_map ..
  refine ⟨_, rfl, rfl, _, rfl, ((FLr most a).length : Int), by rw [lm], by omega, by omega, by show k < _; omega, fun z z0 z1 => ?_⟩
  have hz : (FLr most a)[z.toNat]? = some (FLr most a)[z.toNat] := List.getElem?_eq_getElem (by omega)
  obtain ⟨h2, h3⟩ := List.mem_filter.mp (List.mem_of_getElem? hz)
  have h3 := of_decide_eq_true h3
  refine ⟨z, trD (FLr most a)[z.toNat], rfl, ?_, fin _ (List.mem_filter.mp h2).1 (by omega)⟩
  have q : atI ((FLr most a).map trD) ((z.toNat : Nat) : Int) = some (trD (FLr most a)[z.toNat]) := atI_nat (by rw [List.getElem?_map, hz]; rfl)
  rw [Int.toNat_of_nonneg z0] at q
  exact q
theorem r_finl (fin : DD.nx ⟨X, slG most a x2 x3 x4 x5 x7 (.dat (trD b)) (.dat (.int a.1.length)) (.dat (.int b.1.length)) x11 x12, k⟩) : t_finl DD ⟨X, slG most a x2 x3 x4 x5 x7 (.dat (trD b)) x9 x10 x11 x12, k⟩ := by
  refine ⟨_, rfl, 0, lM a.1, rfl, rfl, _, rfl, _, rfl, 0, lM b.1, rfl, rfl, _, rfl, ?_⟩
  show DD.nx ⟨X, slG most a x2 x3 x4 x5 x7 (.dat (trD b)) (.dat (.int ((a.1.map lI).length : Nat))) (.dat (.int ((b.1.map lI).length : Nat))) x11 x12, k⟩
  rw [List.length_map, List.length_map]
  exact fin
theorem two_rep (n : Nat) : (List.replicate ((n : Int)).toNat [D.int 2]).flatten = (List.replicate n (2 : Int)).map D.int := by
  rw [Int.toNat_natCast, List.flatten_replicate_singleton, List.map_replicate]
theorem r_finm (ha : a ∈ FL) (hb : b ∈ FL) (fin : ∀ x12, DD.nx ⟨X, slG most a x2 (.dat (lM (prodM a.1 b.1))) x4 x5 x7 (.dat (trD b)) (.dat (.int a.1.length)) (.dat (.int b.1.length)) x11 x12, k⟩) : t_finm DD ⟨X, slG most a x2 x3 x4 x5 x7 (.dat (trD b)) (.dat (.int a.1.length)) (.dat (.int b.1.length)) x11 x12, k⟩ := by
  have la := (FL_small a ha).1
  have lb := (FL_small b hb).1
  have ma : (a.1.map lI).length = a.1.length := List.length_map ..
  have mb : (b.1.map lI).length = b.1.length := List.length_map ..
  have row4 : ∀ x ∈ FL, ∀ r ∈ x.1, r.length ≤ 4 := by decide
  have lim8 : ∀ {n : Nat}, n ≤ 100 → n ≤ lim := fun h => Nat.le_trans h (by decide)
  refine ⟨_, rfl, 0, lM a.1, rfl, rfl, _, rfl, by rw [ma]; exact lim8 (by omega), fun p1 hp1 => ⟨fun j acc k' => k' = k ∧ acc = ((a.1.take j).map fun r => r ++ List.replicate b.1.length 2).map lI, ⟨rfl, rfl⟩, ?_, ?_⟩⟩
  · rintro j e acc k' he ⟨rfl, rfl⟩ _
    rw [List.getElem?_map] at he
    obtain ⟨r, hr, rfl⟩ := Option.map_eq_some_iff.mp he
    have lr := row4 a ha r (List.mem_of_getElem? hr)
    refine iteT ⟨_, rfl, lm1, _, rfl, by omega, by omega, by show 1 * ((b.1.length : Int)).toNat ≤ lim; rw [Int.toNat_natCast]; exact lim8 (by omega), ?_⟩
    rw [two_rep]
    refine ⟨by rw [List.length_map, List.length_map, List.length_replicate]; exact lim8 (by omega), rfl, ?_⟩
    rw [List.take_succ, hr, List.map_append, List.map_append, ← List.map_append]
    rfl
  · rintro acc k' ⟨rfl, rfl⟩ _
    rw [ma, List.take_length]
    refine ⟨_, rfl, 0, lM b.1, rfl, rfl, _, rfl, by rw [mb]; exact lim8 (by omega), fun p1 hp1 => ⟨fun j acc k2 => k2 = k' ∧ acc = ((b.1.take j).map fun r => List.replicate a.1.length 2 ++ r).map lI, ⟨rfl, rfl⟩, ?_, ?_⟩⟩
    · rintro j e acc k2 he ⟨rfl, rfl⟩ _
      rw [List.getElem?_map] at he
      obtain ⟨r, hr, rfl⟩ := Option.map_eq_some_iff.mp he
      have lr := row4 b hb r (List.mem_of_getElem? hr)
      refine iteT ⟨lm1, _, rfl, by omega, by omega, by show 1 * ((a.1.length : Int)).toNat ≤ lim; rw [Int.toNat_natCast]; exact lim8 (by omega), ?_⟩
      rw [two_rep]
      refine ⟨_, rfl, by rw [List.length_map, List.length_map, List.length_replicate]; exact lim8 (by omega), rfl, ?_⟩
      rw [List.take_succ, hr, List.map_append, List.map_append, ← List.map_append]
      rfl
    · rintro acc k2 ⟨rfl, rfl⟩ _
      rw [mb, List.take_length]
      refine ⟨by rw [List.length_map, List.length_map, List.length_map, List.length_map]; exact lim8 (by omega), ?_⟩
      rw [← List.map_append]
      exact fin _
theorem prod_sq (ha : a ∈ FL) (hb : b ∈ FL) : Sqr (a.1.length + b.1.length) (prodM a.1 b.1) := by
  have row4 : ∀ x ∈ FL, ∀ r ∈ x.1, r.length = x.1.length := by decide
  refine ⟨by unfold prodM; rw [List.length_append, List.length_map, List.length_map], fun i hi => ?_⟩
  have hl : i < (prodM a.1 b.1).length := by unfold prodM; rw [List.length_append, List.length_map, List.length_map]; exact hi
  have hm : (prodM a.1 b.1).getD i [] ∈ prodM a.1 b.1 := List.mem_of_getElem? (getD_get (d := []) hl)
  rcases List.mem_append.mp hm with h | h
  · obtain ⟨r, hr, e⟩ := List.mem_map.mp h
    rw [← e, List.length_append, List.length_replicate, row4 a ha r hr]
  · obtain ⟨r, hr, e⟩ := List.mem_map.mp h
    rw [← e, List.length_append, List.length_replicate, row4 b hb r hr]
theorem r_finn {R : D → Nat → Prop} (ha : a ∈ FL) (hb : b ∈ FL) (hk : k < 85000000000) (fin : ∀ o k', o.Perm (List.range (a.1.length + b.1.length)) → k ≤ k' → k' ≤ k + (a.1.length + b.1.length) → R (.lst [lM (shf (prodM a.1 b.1) o), .int (a.2.1 * b.2.1), .int (a.2.2 + b.2.2)]) k') : t_finn (En R) ⟨X, slG most a x2 (.dat (lM (prodM a.1 b.1))) x4 x5 x7 (.dat (trD b)) x9 x10 x11 x12, k⟩ := by
  have la := FL_small a ha
  have lb := FL_small b hb
  refine fun X2 => ⟨rfl, _, rfl, a.1.length + b.1.length, prodM a.1 b.1, rfl, prod_sq ha hb, by omega, by show k < _; omega, fun o k' pm h1 h2 => ?_⟩
  refine ⟨_, rfl, 1, .int a.2.1, rfl, rfl, _, rfl, 1, .int b.2.1, rfl, rfl, .inl (by omega), ?_⟩
  exact ⟨_, rfl, 2, .int a.2.2, rfl, rfl, _, rfl, 2, .int b.2.2, rfl, rfl, lm3, fin o k' pm h1 h2⟩
end
theorem r__law_finite (X : List Addr) (ds : List D) (k : Nat) (R : D → Nat → Prop) (h : sp__law_finite ds k R) : t__law_finite (En R) (St0 true 13 ds X k) := by
  obtain ⟨most, rfl, h1, h6, hk, h⟩ := h
  refine r_fina fun X p => r_finb fun y3 y4 y5 => ?_
  refine r_fing (r_finh fun X p x3 x4 x5 x6 x7 x8 x9 x10 x11 x12 => ?_)
  refine r_fini h1 (by omega) fun a f => r_finj fun X x2 x3 x4 x5 x8 x9 x10 x11 x12 => ?_
  refine r_fink f (by omega) fun b hb hab => r_finl (r_finm f.mem hb fun y12 => r_finn f.mem hb (by omega) fun o k' pm a1 a2 => ?_)
  exact h _ _ _ k' ⟨a, b, o, f.mem, hb, f.pos, hab, pm, rfl, rfl, rfl⟩ (by omega) (by omega)
end BW
set_option maxHeartbeats 1000000
namespace DL
open PySem L2
open PySem.W (Frag)
abbrev KVT (K : Frag) (H : Hp) (L : List Ve) : Prop := ∀ x ∈ L, SqT K H x.1 (x.2.1.map V.int)
def xsV (L : List Ve) (us : List Value) : List (List Int × Addr × Value) := (L.zip us).map fun y => (y.1.2.1, y.1.1, y.2)
theorem xsV_keys {L : List Ve} {us : List Value} (h : us.length = L.length) : (xsV L us).map (·.1) = kVs L := by
  unfold xsV kVs
  rw [List.map_map]
  have : (L.zip us).map (fun y => y.1) = L := List.map_fst_zip (by omega)
  conv => rhs; rw [← this, List.map_map]
  rfl
theorem xsV_mem {L : List Ve} {us : List Value} {x : List Int × Addr × Value} (h : x ∈ xsV L us) : ∃ (i : Nat) (y : Ve) (u : Value), L[i]? = some y ∧ us[i]? = some u ∧ x = (y.2.1, y.1, u) := by
  obtain ⟨⟨y, u⟩, hm, rfl⟩ := List.mem_map.mp h
  obtain ⟨i, hi⟩ := List.getElem?_of_mem hm
  rw [List.getElem?_zip_eq_some] at hi
  exact ⟨i, y, u, hi.1, hi.2, rfl⟩
section
variable {X : Cx} {pins : List (Addr × Obj)} {σ : St} {H : Hp} {s : Shared} {p q : Addr} {L : List Ve} {r : List Int}
theorem dve_of {lk : Option Obj} (I : Inv X pins σ H s) (e : H p = some (.ext (DvE p L lk))) (hk : KVT X.K H L) :
    ∃ us : List Value, us.length = L.length ∧ (∀ (i : Nat) (x : Ve) (u : Value), L[i]? = some x → us[i]? = some u → RelV x.2.2 u) ∧ s.heap.DictOfH (tupleKind (intKind X.prog X.w)) p (xsV L us) ∧ (p == sysModules) = false ∧ (kVs L).Nodup := by
  obtain ⟨⟨o, es, ep, h1, _, h2, h3, h4, us, h5, h6, h7, h8⟩, _, _⟩ := (show ObjOk X.prog X.w H s.heap p (.ext (DvE p L lk)) from I.hok p _ e)
  refine ⟨us, h5, h6, ⟨o, es, ep, h1, h2, h3, ?_, fun x hx => ?_, ?_⟩, h4, h8⟩
  · rw [h7]
    unfold xsV
    rw [List.map_map]
    rfl
  · obtain ⟨i, y, u, e1, e2, rfl⟩ := xsV_mem hx
    exact Inv.isT I (hk y (List.mem_of_getElem? e1))
  · rw [xsV_keys h5]
    exact h8
theorem atV_some {us : List Value} (hl : us.length = L.length) (nd : (kVs L).Nodup) {i : Nat} {x : Ve} (h : L[i]? = some x) : ∃ u, us[i]? = some u ∧ atKey (xsV L us) x.2.1 = some (x.1, u) := by
  obtain ⟨hi, _⟩ := List.getElem?_eq_some_iff.mp h
  obtain ⟨u, hu⟩ : ∃ u, us[i]? = some u := ⟨us[i], by simp [show i < us.length by omega]⟩
  refine ⟨u, hu, atKey_of_get (i := i) (by rw [xsV_keys hl]; exact nd) ?_⟩
  unfold xsV
  rw [List.getElem?_map, (List.getElem?_zip_eq_some (z := (x, u))).mpr ⟨h, hu⟩]
  rfl
theorem atV_none {us : List Value} (h : r ∉ kVs L) : atKey (xsV L us) r = none := by
  refine atKey_none_of_get fun j y e => h ?_
  obtain ⟨i, z, u, e1, _, e3⟩ := xsV_mem (List.mem_of_getElem? e)
  have : r = z.2.1 := congrArg Prod.fst e3
  rw [this]
  exact List.mem_map.mpr ⟨z, List.mem_of_getElem? e1, rfl⟩
def tGetV (K : Frag) (to ti : TE) : TE := fun σ H Q => to σ H fun x H1 => ti σ H1 fun y H2 => ∃ p q L r v lk, x = .ref p ∧ y = .ref q ∧ H2 p = some (.ext (DvE p L lk)) ∧ KVT K H2 L ∧ SqT K H2 q (r.map V.int) ∧ (∃ a, (a, r, v) ∈ L) ∧ Q v H2
theorem pe_getV {o i : Expr} {to ti : TE} {pos : Pos} (hu : X.A.units + 1 < cLine) (ho : PE X o to) (hi : PE X i ti) (hs : NoSl i) : PE X (.Subscript o i pos) (tGetV X.K to ti) := by
  refine ⟨fun pins s σ H Q I h => ?_⟩
  refine subD_of PySem.F.slot_dict_getitem.lookup hs (thn (ho.run pins s σ H _ I h) fun u s1 ⟨x, H1, I1, rx, q1⟩ => thn (hi.run pins s1 σ H1 _ I1 q1) fun iv s2 ⟨y, H2, I2, ry, p, q, L, r, v, lk, ex, ey, e, hk, hq, ⟨a, hm⟩, q2⟩ => ?_)
  subst ex ey
  obtain rfl : u = Value.ref p := rx
  obtain rfl : iv = Value.ref q := ry
  obtain ⟨us, hl, hv, dd, hd, nd⟩ := dve_of I2 e hk
  obtain ⟨i, hi⟩ := List.getElem?_of_mem hm
  obtain ⟨u, hu1, e1⟩ := atV_some (us := us) hl nd hi
  exact ⟨dd.typeIs, wpAny_getItem_heap (tupleKind_room_in1 hu) (Inv.isT I2 hq) dd e1 ⟨v, H2, I2.tok _, hv i _ u hi hu1, q2⟩⟩
def addV (L : List Ve) (q : Addr) (r : List Int) (v : V) : List Ve := if r ∈ kVs L then L.map (fun x => if x.2.1 = r then (x.1, x.2.1, v) else x) else L ++ [(q, r, v)]
theorem dve_new {P : Program} {w : World} {h' : Heap} {L : List Ve} {us : List Value} (hl : us.length = L.length) (hv : ∀ (i : Nat) (x : Ve) (u : Value), L[i]? = some x → us[i]? = some u → RelV x.2.2 u)
    (hd : (p == sysModules) = false) (dd : h'.DictOfH (tupleKind (intKind P w)) p (xsV L us)) (H' : Hp) : ObjOk P w H' h' p (.ext (DvE p L none)) := by
  obtain ⟨o, es, ep, h1, h2, h3, h4, h5, h6⟩ := dd
  rw [xsV_keys hl] at h6
  refine ⟨⟨o, es, ep, h1, fun _ z => (nomatch z), h2, h3, hd, us, hl, hv, ?_, h6⟩, ⟨o, h1⟩, fun g1 g2 ⟨o, es, ep, k1, k0, k2, k3, k4, k5⟩ st => ⟨o, es, ep, st o k1, k0, k2, k3, k4, k5⟩⟩
  rw [h4]
  unfold xsV
  rw [List.map_map]
  rfl
theorem storedV_ok {us : List Value} {v : V} {u : Value} (hl : us.length = L.length) (hv : ∀ (i : Nat) (x : Ve) (u : Value), L[i]? = some x → us[i]? = some u → RelV x.2.2 u) (nd : (kVs L).Nodup) (hn : RelV v u) :
    ∃ us', storedH (xsV L us) r q u = xsV (addV L q r v) us' ∧ us'.length = (addV L q r v).length ∧ ∀ (i : Nat) (x : Ve) (u : Value), (addV L q r v)[i]? = some x → us'[i]? = some u → RelV x.2.2 u := by
  unfold addV
  by_cases z : r ∈ kVs L
  · rw [if_pos z]
    obtain ⟨i, hi⟩ := List.getElem?_of_mem z
    rw [List.getElem?_map] at hi
    obtain ⟨x, hx, ex⟩ := Option.map_eq_some_iff.mp hi
    obtain ⟨u0, _, e⟩ := atV_some (us := us) hl nd hx
    rw [ex] at e
    rw [storedH_old e]
    let f : Ve × Value → Value := fun y => if y.1.2.1 = r then u else y.2
    let g : Ve → Ve := fun x => if x.2.1 = r then (x.1, x.2.1, v) else x
    have gk : ∀ y : Ve, (g y).1 = y.1 ∧ (g y).2.1 = y.2.1 := fun y => by
      show (if y.2.1 = r then (y.1, y.2.1, v) else y).1 = _ ∧ (if y.2.1 = r then (y.1, y.2.1, v) else y).2.1 = _
      split <;> exact ⟨rfl, rfl⟩
    refine ⟨(L.zip us).map f, ?_, by rw [List.length_map, List.length_map, List.length_zip]; omega, fun j y w h1 h2 => ?_⟩
    · refine List.ext_getElem? fun j => ?_
      unfold xsV
      rw [List.map_map, List.getElem?_map, List.getElem?_map]
      cases e1 : L[j]? with
      | none =>
        have l1 : L.length ≤ j := List.getElem?_eq_none_iff.mp e1
        rw [List.getElem?_eq_none (by rw [List.length_zip]; omega), List.getElem?_eq_none (by rw [List.length_zip, List.length_map]; omega)]
        rfl
      | some y =>
        obtain ⟨l1, _⟩ := List.getElem?_eq_some_iff.mp e1
        obtain ⟨w, e2⟩ : ∃ w, us[j]? = some w := ⟨us[j]'(by omega), by simp [show j < us.length by omega]⟩
        have z1 : (L.zip us)[j]? = some (y, w) := (List.getElem?_zip_eq_some (z := (y, w))).mpr ⟨e1, e2⟩
        have z2 : ((L.map g).zip ((L.zip us).map f))[j]? = some (g y, f (y, w)) := (List.getElem?_zip_eq_some (z := (g y, f (y, w)))).mpr ⟨by rw [List.getElem?_map, e1]; rfl, by rw [List.getElem?_map, z1]; rfl⟩
        rw [z1, z2]
        show some (putAt r u (y.2.1, y.1, w)) = some ((g y).2.1, (g y).1, if y.2.1 = r then u else w)
        rw [(gk y).1, (gk y).2]
        unfold putAt
        by_cases q : y.2.1 = r
        · rw [if_pos q, if_pos q]
        · rw [if_neg q, if_neg q]
    · rw [List.getElem?_map] at h1 h2
      obtain ⟨⟨y', w'⟩, h3, rfl⟩ := Option.map_eq_some_iff.mp h2
      obtain ⟨y2, h6, rfl⟩ := Option.map_eq_some_iff.mp h1
      obtain ⟨h4, h5⟩ := List.getElem?_zip_eq_some.mp h3
      have h4 : L[j]? = some y' := h4
      have h5 : us[j]? = some w' := h5
      rw [h6] at h4
      cases h4
      show RelV (if y'.2.1 = r then (y'.1, y'.2.1, v) else y').2.2 (if y'.2.1 = r then u else w')
      by_cases q : y'.2.1 = r
      · rw [if_pos q, if_pos q]
        exact hn
      · rw [if_neg q, if_neg q]
        exact hv j y' w' h6 h5
  · rw [if_neg z, storedH_new (atV_none z)]
    refine ⟨us ++ [u], ?_, by rw [List.length_append, List.length_append]; show us.length + 1 = L.length + 1; omega, fun j y w h1 h2 => ?_⟩
    · unfold xsV
      rw [List.zip_append hl.symm, List.map_append]
      rfl
    · by_cases hj : j < L.length
      · rw [List.getElem?_append_left hj] at h1
        rw [List.getElem?_append_left (by omega)] at h2
        exact hv j y w h1 h2
      · have : j = L.length := by
          have := (List.getElem?_eq_some_iff.mp h1).1
          rw [List.length_append] at this
          have : j < L.length + 1 := this
          omega
        subst this
        rw [List.getElem?_append_right (Nat.le_refl _), Nat.sub_self] at h1
        rw [List.getElem?_append_right (by omega), show L.length - us.length = 0 by omega] at h2
        cases h1
        cases h2
        exact hn
def rSetV (K : Frag) : V → V → V → Hp → (Hp → Prop) → Prop := fun o i v H Q => ∃ p q L r, o = .ref p ∧ i = .ref q ∧ H p = some (.ext (DvE p L none)) ∧ KVT K H L ∧ SqT K H q (r.map V.int) ∧ L.length ≤ 1000000 ∧ Q (upd H p (.ext (DvE p (addV L q r v) none)))
theorem set_V (hu : X.A.units + 1 < cLine) : PSet X (rSetV X.K) := by
  intro pins s σ H o i v ov iv u Q I ro ri rv h
  obtain ⟨p, q, L, r, rfl, rfl, e, hk, hq, hz, h⟩ := h
  cases (show ov = Value.ref p from ro)
  cases (show iv = Value.ref q from ri)
  obtain ⟨us, hl, hv, dd, hd, nd⟩ := dve_of I e hk
  obtain ⟨us', e1, e2, e3⟩ := storedV_ok (q := q) (r := r) (v := v) (u := u) hl hv nd rv
  have lx : (xsV L us).length = L.length := by unfold xsV; rw [List.length_map, List.length_zip]; omega
  refine wpAny_setItem_heap (tupleKind_room_in1 hu) (Inv.isT I hq) dd (fun h' dd' sb => ?_) (by rw [lx]; exact Nat.le_trans hz (by decide))
  rw [e1] at dd'
  have he : ∃ ob, h'.get? p = some ob := let ⟨ob, _, _, ho, _⟩ := dd'; ⟨ob, ho⟩
  exact ⟨_, d_write I (by rw [e]; exact True.intro) sb he (dve_new e2 e3 hd dd' _), h⟩
end
end DL
set_option maxHeartbeats 1000000
namespace DL
open PySem L2
open PySem.W (Frag)
theorem DcAt.put {c : C} {i j : Nat} {p : Addr} {L : List (Addr × List Int)} {s : S} {σ : L2.St} {H : Hp} {x : Sl} {v : V} (a : DcAt c i p L s σ H) (ne : j ≠ i) : DcAt c i p L (s.put j x) (σ.set j (some v)) H :=
  ⟨by show (s.sl.set j x)[i]? = _; rw [List.getElem?_set_ne ne]; exact a.slot, by rw [List.getElem?_set_ne ne]; exact a.at_, a.mem, a.out, a.obj, a.keys⟩
end DL
set_option maxHeartbeats 1000000
namespace DL
open PySem L2
open PySem.W (Frag)
end DL
set_option maxHeartbeats 1000000
namespace DL
open PySem L2
open PySem.W (Frag)
abbrev Kv := List Int × D
theorem dve_code {p : Addr} {L : List Ve} {lk : Option Obj} {q : PySem.Str} : HO.ext (DvE p L lk) ≠ LamX.CodeO p q := fun z => by
  unfold LamX.CodeO at z
  have e := HO.ext.inj z
  obtain ⟨h, hh⟩ := heap_at p { cls := .none, data := .fields #[.none, .str q default] } rfl
  have e2 := congrFun e h
  have : DvE p L lk h := by
    rw [e2]
    exact ⟨_, _, default, hh, rfl, rfl⟩
  obtain ⟨o, es, ep, h1, _, h2, h3, _⟩ := this
  rw [hh] at h1
  cases h1
  cases h3
theorem dve_tb {p : Addr} {L L' : List Ve} {lk lk' : Option Obj} {H : Hp} (h : H p = some (.ext (DvE p L lk))) : TbK H (upd H p (.ext (DvE p L' lk'))) := .at_ h (by intro _ z; cases z) (fun q => dve_code) (by intro _ z; cases z) (by intro _ _ z; cases z)
structure DvAt (c : C) (i : Nat) (p : Addr) (L : List Ve) (ks : List Kv) (s : S) (σ : L2.St) (H : Hp) : Prop where
  slot : s.sl[i]? = some .no
  at_ : σ[i]? = some (some (.ref p))
  mem : p ∈ s.X
  out : p ∉ c.X0
  obj : H p = some (.ext (DvE p L none))
  keys : ∀ x ∈ L, SqT c.K (c.hid s.X H) x.1 (x.2.1.map V.int)
  kk : kVs L = ks.map (·.1)
  vals : RlA c.K (c.hid s.X H) (L.map (·.2.2)) (ks.map (·.2))
theorem DvAt.noown {c : C} {i : Nat} {p : Addr} {L : List Ve} {ks : List Kv} {s : S} {σ : L2.St} {H : Hp} (a : DvAt c i p L ks s σ H) (rp : Rep c s σ H) (j : Nat) (ds : List D) : s.sl[j]? ≠ some (.own p ds) := fun e => by
  obtain ⟨_, _, _, _, vs, h, _⟩ := rp.slot j _ e
  rw [a.obj] at h
  cases h
theorem DvAt.len {c : C} {i : Nat} {p : Addr} {L : List Ve} {ks : List Kv} {s : S} {σ : L2.St} {H : Hp} (a : DvAt c i p L ks s σ H) : L.length = ks.length := by
  have := congrArg List.length a.kk
  rwa [List.length_map, List.length_map] at this
structure DvN where
  nx : S → List Kv → Prop
  rt : D → Nat → Prop
  bk : S → List Kv → Prop := fun _ _ => False
  ct : S → List Kv → Prop := fun _ _ => False
  rv : List Kv → Nat → Prop := fun _ _ => False
structure DvOut (c : C) (p : Addr) (L : List Ve) (ks : List Kv) (H : Hp) : Prop where
  obj : H p = some (.ext (DvE p L none))
  out : p ∉ c.X0
  ml : p ∉ Ml c.M
  non : c.H0 p = none
  keys : ∀ x ∈ L, SqT c.K (c.hid (p :: c.X0) H) x.1 (x.2.1.map V.int)
  kk : kVs L = ks.map (·.1)
  vals : RlA c.K (c.hid (p :: c.X0) H) (L.map (·.2.2)) (ks.map (·.2))
abbrev DvS := DvN → S → List Kv → Prop
structure FitsV (c : C) (i : Nat) (p : Addr) (X : List Addr) (H : Hp) (DD : DvN) (D : Ends) : Prop where
  nx : ∀ s' σ' H' L' ks', Rep c s' σ' H' → Adv' c X H s'.X H' → DvAt c i p L' ks' s' σ' H' → DD.nx s' ks' → D.nx σ' H'
  bk : ∀ s' σ' H' L' ks', Rep c s' σ' H' → Adv' c X H s'.X H' → DvAt c i p L' ks' s' σ' H' → DD.bk s' ks' → D.bk σ' H'
  ct : ∀ s' σ' H' L' ks', Rep c s' σ' H' → Adv' c X H s'.X H' → DvAt c i p L' ks' s' σ' H' → DD.ct s' ks' → D.ct σ' H'
  rt : ∀ d k v H', Fin c H' k → Rl c.K (c.hid c.X0 H') v d → DD.rt d k → D.rt v H'
  rv : ∀ ks k p L H', Fin c H' k → DvOut c p L ks H' → DD.rv ks k → D.rt (.ref p) H'
def LDv (c : C) (i : Nat) (t : DvS) : TS := fun D σ H => ∃ p L ks s DD, Rep c s σ H ∧ DvAt c i p L ks s σ H ∧ t DD s ks ∧ FitsV c i p s.X H DD D
theorem DvAt.on {c : C} {i : Nat} {p : Addr} {L : List Ve} {ks : List Kv} {s : S} {σ : L2.St} {H H1 : Hp} {k : Nat} (a : DvAt c i p L ks s σ H) (e : AdvE c s.X H H1) : DvAt c i p L ks (s.at k) σ H1 :=
  ⟨a.slot, a.at_, a.mem, a.out, by rw [e.own p a.mem]; exact a.obj, fun x hx => e.sub.st (a.keys x hx), a.kk, a.vals.mono e.sub⟩
theorem FitsV.on {c : C} {i : Nat} {p : Addr} {X X1 : List Addr} {H H1 : Hp} {DD : DvN} {D : Ends} (f : FitsV c i p X H DD D) (a : Adv' c X H X1 H1) : FitsV c i p X1 H1 DD D :=
  ⟨fun s σ H' L' ks' r b z q => f.nx s σ H' L' ks' r (a.trans b) z q, fun s σ H' L' ks' r b z q => f.bk s σ H' L' ks' r (a.trans b) z q, fun s σ H' L' ks' r b z q => f.ct s σ H' L' ks' r (a.trans b) z q, f.rt, f.rv⟩
theorem DvAt.put {c : C} {i j : Nat} {p : Addr} {L : List Ve} {ks : List Kv} {s : S} {σ : L2.St} {H : Hp} {x : Sl} {v : V} (a : DvAt c i p L ks s σ H) (ne : j ≠ i) : DvAt c i p L ks (s.put j x) (σ.set j (some v)) H :=
  ⟨by show (s.sl.set j x)[i]? = _; rw [List.getElem?_set_ne ne]; exact a.slot, by rw [List.getElem?_set_ne ne]; exact a.at_, a.mem, a.out, a.obj, a.keys, a.kk, a.vals⟩
def putK (ks : List Kv) (r : List Int) (x : D) : List Kv := if r ∈ ks.map (·.1) then ks.map (fun y => if y.1 = r then (y.1, x) else y) else ks ++ [(r, x)]
theorem rlA_put {K : Frag} {A : Hp} {r : List Int} {v : V} {d : D} (h : Rl K A v d) : ∀ {L : List Ve} {ks : List Kv}, kVs L = ks.map (·.1) → RlA K A (L.map (·.2.2)) (ks.map (·.2)) → RlA K A ((L.map fun x => if x.2.1 = r then (x.1, x.2.1, v) else x).map (·.2.2)) ((ks.map fun y => if y.1 = r then (y.1, d) else y).map (·.2))
  | [], [], _, _ => .nil
  | [], _ :: _, e, _ => nomatch e
  | _ :: _, [], e, _ => nomatch e
  | x :: L, y :: ks, e, q => by
    have e1 : x.2.1 = y.1 := (List.cons.inj e).1
    have e2 : kVs L = ks.map (·.1) := (List.cons.inj e).2
    cases q with
    | cons q1 q2 =>
      have ih := rlA_put (r := r) h (L := L) (ks := ks) e2 q2
      refine .cons ?_ ih
      show Rl K A (if x.2.1 = r then (x.1, x.2.1, v) else x).2.2 (if y.1 = r then (y.1, d) else y).2
      rw [e1]
      by_cases z : y.1 = r
      · rw [if_pos z, if_pos z]; exact h
      · rw [if_neg z, if_neg z]; exact q1
theorem keys_put {L : List Ve} {ks : List Kv} {q : Addr} {r : List Int} {v : V} {d : D} (e : kVs L = ks.map (·.1)) : kVs (addV L q r v) = (putK ks r d).map (·.1) := by
  unfold addV putK
  by_cases z : r ∈ kVs L
  · have z2 : r ∈ ks.map (·.1) := e ▸ z
    rw [if_pos z, if_pos z2, List.map_map]
    show List.map (fun x : Ve => x.2.1) _ = _
    rw [List.map_map]
    refine Eq.trans ?_ (e.trans ?_)
    · refine List.map_congr_left fun x _ => ?_
      show (if x.2.1 = r then (x.1, x.2.1, v) else x).2.1 = x.2.1
      split <;> rfl
    · refine List.map_congr_left fun y _ => ?_
      show y.1 = (if y.1 = r then (y.1, d) else y).1
      split <;> rfl
  · have z2 : r ∉ ks.map (·.1) := e ▸ z
    rw [if_neg z, if_neg z2, List.map_append]
    show List.map (fun x : Ve => x.2.1) _ = _
    rw [List.map_append, show List.map (fun x : Ve => x.2.1) L = ks.map (·.1) from e]
    rfl
theorem vals_put {K : Frag} {A : Hp} {L : List Ve} {ks : List Kv} {q : Addr} {r : List Int} {v : V} {d : D} (e : kVs L = ks.map (·.1)) (h : RlA K A (L.map (·.2.2)) (ks.map (·.2))) (hv : Rl K A v d) : RlA K A ((addV L q r v).map (·.2.2)) ((putK ks r d).map (·.2)) := by
  unfold addV putK
  by_cases z : r ∈ kVs L
  · rw [if_pos z, if_pos (e ▸ z)]
    exact rlA_put hv e h
  · rw [if_neg z, if_neg (e ▸ z), List.map_append, List.map_append]
    exact h.app (.cons hv .nil)
theorem keysT_put {K : Frag} {A : Hp} {L : List Ve} {q : Addr} {r : List Int} {v : V} (h : KVT K A L) (hq : SqT K A q (r.map V.int)) : KVT K A (addV L q r v) := fun x hx => by
  unfold addV at hx
  split at hx
  · obtain ⟨y, hy, rfl⟩ := List.mem_map.mp hx
    have := h y hy
    split <;> exact this
  · rcases List.mem_append.mp hx with hx | hx
    · exact h x hx
    · rw [List.mem_singleton.mp hx]; exact hq
end DL
set_option maxHeartbeats 1000000
namespace DL
open PySem L2
open PySem.W (Frag)
abbrev DvX := S → List Kv → (D → Nat → Prop) → Prop
def LEv (c : C) (i : Nat) (t : DvX) : TE := fun σ H Q => ∃ p L ks s R, Rep c s σ H ∧ DvAt c i p L ks s σ H ∧ t s ks R ∧ ∀ d k, R d k → ∀ v H', Rep c (s.at k) σ H' → AdvE c s.X H H' → Rl c.K (c.hid s.X H') v d → Q v H'
end DL
set_option maxHeartbeats 1000000
namespace DL
open PySem L2
open PySem.W (Frag)
abbrev dvSeq (t u : DvS) : DvS := fun DD s ks => t { DD with nx := u DD } s ks
abbrev dvFor (i : Nat) (it : DI) (g : DG) (body : DvS) : DvS := fun DD s ks => it s fun items k0 => ∃ Inv : Nat → S → List Kv → Prop, Inv 0 (s.at k0) ks ∧
  (∀ n d s' ks', items[n]? = some d → Inv n s' ks' → g d s' fun s2 => dcS i s2 ∧ body { DD with nx := Inv (n + 1), ct := Inv (n + 1), bk := DD.nx } s2 ks') ∧ ∀ s' ks', Inv items.length s' ks' → DD.nx s' ks'
abbrev dvPut (tv : DvX) (t : DE) : DvS := fun DD s ks => tv s ks fun dv kv => t (s.at kv) fun d k => ∃ r, d = tuI r ∧ ks.length ≤ 1000000 ∧ DD.nx (s.at k) (putK ks r dv)
section
variable {X : Cx} {c : C} {i : Nat} {pos : Pos}
theorem pss_dv1 {st : Stmt} {t : DvS} (h : PS X st (LDv c i t)) : PSs X [st] (LDv c i t) := pss_one h
theorem pss_dvc {st : Stmt} {r : List Stmt} {t u : DvS} (h1 : PS X st (LDv c i t)) (h2 : PSs X r (LDv c i u)) : PSs X (st :: r) (LDv c i (dvSeq t u)) :=
  (pss_cons h1 h2).weak fun D σ H ⟨p, L, ks, s, DD, rp, a, q, f⟩ => ⟨p, L, ks, s, { DD with nx := u DD }, rp, a, q, ⟨fun s' σ' H' L' ks' r' b z q' => ⟨p, L', ks', s', DD, r', z, q', f.on b⟩, f.bk, f.ct, f.rt, f.rv⟩⟩
theorem ps_dvfor {tg iter : Expr} {body : List Stmt} {it : DI} {g : DG} {tb : DvS} {ts : List Nat} (hp : PassesOwn (model X.prog X.w) X.A X.env X.xe) (hc : X.calm = true) (hi : PI X tg iter (LI c it)) (hg : PG X tg (LG c ts g)) (hts : i ∉ ts) (hb : PSs X body (LDv c i tb))
    (hs : ∀ x, foldedSetIterable iter X.env x = pure x := by intro _; rfl) : PS X (.For tg iter body [] pos) (LDv c i (dvFor i it g tb)) :=
  (ps_for hp hc hi hg hb hs).weak fun D σ H ⟨p, L, ks, s, DD, rp, dc, q, f⟩ => by
    refine ⟨s, _, rp, q, fun items k0 ⟨IV, i0, turn, fin⟩ J H1 r1 a1 yl => ?_⟩
    refine ⟨fun n m σ' H' => m = items.length - n ∧ n ≤ items.length ∧ ∃ s' L' ks', IV n s' ks' ∧ Rep c s' σ' H' ∧ DvAt c i p L' ks' s' σ' H' ∧ Adv' c s.X H1 s'.X H', ⟨items.length, by simp, Nat.zero_le _, s.at k0, L, ks, i0, r1, dc.on a1, Sub.refl _⟩, ?_⟩
    rintro n m σ' H' ⟨rfl, hn', s', L', ks', hI, rp', dc', ad⟩
    obtain ⟨yl1, yl2⟩ := yl n s' σ' H' rp' ad
    by_cases hlt : n < items.length
    · obtain ⟨d, hd⟩ : ∃ d, items[n]? = some d := ⟨items[n], by simp [hlt]⟩
      obtain ⟨go, yd⟩ := yl2 d hd
      refine .inr ⟨go, fun σ2 H2 => ∃ s' L' ks', IV (n + 1) s' ks' ∧ Rep c s' σ2 H2 ∧ DvAt c i p L' ks' s' σ2 H2 ∧ Adv' c s.X H1 s'.X H2, fun σ2 H2 ⟨s2, L2, k2, h⟩ => ⟨items.length - (n + 1), by omega, rfl, hlt, s2, L2, k2, h⟩, fun x H2 hy => ?_⟩
      obtain ⟨r2, a2, e2⟩ := yd x H2 hy
      refine ⟨s', _, d, r2, e2, turn n d s' _ hd hI, fun s3 ⟨o1, h3⟩ σ3 H3 r3 a3 x3 sm _ => ?_⟩
      have ad3 : Adv' c s.X H1 s3.X H3 := (ad.trans a2.sub).trans (x3 ▸ a3.sub)
      have dc3 : DvAt c i p L' ks' s3 σ3 H3 := ⟨o1, by rw [sm i hts]; exact dc'.at_, by rw [x3]; exact dc'.mem, dc'.out, by rw [a3.own p dc'.mem, a2.own p dc'.mem]; exact dc'.obj, fun y hy => by rw [x3]; exact a3.sub.st (a2.sub.st (dc'.keys y hy)), dc'.kk, by rw [x3]; exact (dc'.vals.mono a2.sub).mono a3.sub⟩
      exact ⟨p, L', ks', s3, _, r3, dc3, h3, ⟨fun s4 σ4 H4 L4 k4 r4 a4 z4 h4 => ⟨s4, L4, k4, h4, r4, z4, ad3.trans a4⟩, fun s4 σ4 H4 L4 k4 r4 a4 z4 h4 => f.nx s4 σ4 H4 L4 k4 r4 (a1.sub.trans (ad3.trans a4)) z4 h4, fun s4 σ4 H4 L4 k4 r4 a4 z4 h4 => ⟨s4, L4, k4, h4, r4, z4, ad3.trans a4⟩, f.rt, f.rv⟩⟩
    · have e : n = items.length := by omega
      subst e
      exact .inl ⟨yl1 (Nat.le_refl _), f.nx s' σ' H' L' ks' rp' (a1.sub.trans ad) dc' (fin s' _ hI)⟩
theorem ps_dvput {j : Nat} (hr : Room j X.A) (hK : c.K = X.K) {y : PySem.Str} {pn p2 : Pos} {e ev : Expr} {t : DE} {tv : DvX} (hev : PE X ev (LEv c i tv)) (he : PE X e (LE c t)) (hN : X.N[i]? = some y := by rfl) (hv : Vis X.env.scope y := by first | exact Or.inl rfl | exact Or.inr (Or.inl rfl) | exact Or.inr (Or.inr rfl)) (hd : (y == ("__debug__" : PySem.Str)) = false := by decide) (hcd : (y == ("__classdict__" : PySem.Str)) = false := by decide)
    (ha : ∀ v, assign (.Subscript (.Name y pn) e p2) X.env v = (do
      let ov ← holding [v] (eval (.Name y pn) X.env)
      let iv ← holding [v, ov] (eval e X.env)
      standAt p2
      holding [v, ov, iv] (setItem ov iv v)
      release [v, ov, iv] []) := by intro _; rfl)
    (hs : swapsWithSole [.Subscript (.Name y pn) e p2] ev pos.line X.env = pure false := by rfl) (hw : swappedStores [.Subscript (.Name y pn) e p2] ev X.env = pure none := by rfl)
    (hA : (assignEach [.Subscript (.Name y pn) e p2] X.env).map (·.2) = [assign (.Subscript (.Name y pn) e p2) X.env] := by rfl) :
    PS X (.Assign [.Subscript (.Name y pn) e p2] ev pos) (LDv c i (dvPut tv t)) :=
  (ps_asg hev (pg_sub (pe_var hN hv hd hcd) he (set_V (hu_of hr)) ha) hs hw hA).weak fun D σ H ⟨p, L, ks, s, DD, rp, dc, q, f⟩ => by
    refine ⟨p, L, ks, s, _, rp, dc, q, fun dv kv h0 vv Hv r0 a0 e0 => ?_⟩
    have dc0 := dc.on (k := kv) a0
    refine ⟨_, dc0.at_, s.at kv, _, r0, h0, fun d k ⟨rr, hd, hl, hR⟩ v H1 r1 a1 e1 => ?_⟩
    subst hd
    obtain ⟨qa, vs, rfl, h1, ra⟩ := e1.tupE
    obtain rfl := ra.ints_v
    have dc1 := dc0.on (k := k) a1
    rw [← dc.len] at hl
    refine ⟨p, qa, L, rr, rfl, rfl, dc1.obj, fun x hx => hK ▸ (wo_sub _ _ : Sub _ _).st (dc1.keys x hx), hK ▸ (wo_sub _ _ : Sub _ _).st h1, hl, ?_⟩
    have m := Rep.mutX (s := s.at k) r1 (o := .ext (DvE p (addV L qa rr vv) none)) dc1.mem dc1.out (fun j ds => dc1.noown r1 j ds) (dve_tb dc1.obj)
    exact f.nx _ σ _ (addV L qa rr vv) (putK ks rr dv) m.1 ((a0.sub.trans a1.sub).trans m.2) ⟨dc1.slot, dc1.at_, dc1.mem, dc1.out, upd_same, keysT_put (fun x hx => m.2.st (dc1.keys x hx)) (m.2.st h1), keys_put dc1.kk, vals_put dc1.kk (dc1.vals.mono m.2) ((e0.mono a1.sub).mono m.2)⟩ hR
end
end DL
set_option maxHeartbeats 1000000
namespace DL
open PySem PySem.Spec PyProof.Rows L2
open PySem.W (Frag)
def Itv (p : Addr) (L : List Ve) (o : Obj) : It :=
  ⟨fun i H => H p = some (.ext (DvE p L (some o))) ∧ i < L.length, fun i H x H' => H' = H ∧ ∃ y : Ve, L[i]? = some y ∧ x = .ref y.1, fun i H => H p = some (.ext (DvE p L (some o))) ∧ L.length ≤ i⟩
section
variable {P : Program} {w : World} {K : Frag} {tg : Expr} {p : Addr} {L : List Ve} {o : Obj} {es : Array DictEntry} {ep : Nat}
theorem dv_size {us : List Value} (h5 : us.length = L.length) (h7 : es.toList = (L.zip us).map (fun y => (⟨hashT y.1.2.1, .ref y.1.1, y.2⟩ : DictEntry))) : es.size = L.length := by
  rw [← Array.length_toList, h7, List.length_map, List.length_zip]
  omega
theorem turn_dv (it : Addr) (hod : o.data = .dict es ep) : Turn P w K tg (Itv p L o) [it] it (fun i h => h.IsKeyIter it p i L.length ep) where
  mem := by simp
  obj := fun i h st b hb => by
    have e : b = it := by simpa using hb
    subst e
    obtain ⟨oi, e, c, dd⟩ := st
    exact ⟨oi, e, fun v z => by rw [dd] at z; cases z⟩
  keep := fun i h h' st k => st.at fun oi e => k it (by simp) oi e
  item := by
    intro X hP hw hK hc i pins s σ H E I hf st hg
    subst hP hw hK
    obtain ⟨hd, hi⟩ := hg
    obtain ⟨f0, f1, f2, f3, f4, f5⟩ := hf it (by simp)
    obtain ⟨⟨o1, es1, ep1, h1, hl, h2, h3, h4, us, h5, h6, h7, h8⟩, _, _⟩ := (show ObjOk X.prog X.w H s.heap p (.ext (DvE p L (some o))) from I.hok p _ hd)
    obtain rfl := hl o rfl
    obtain ⟨rfl, rfl⟩ := dict_ep hod h3
    have hsz := dv_size h5 h7
    have hy : L[i]? = some L[i] := List.getElem?_eq_getElem hi
    have hu : us[i]? = some (us[i]'(by omega)) := List.getElem?_eq_getElem (by omega)
    have hen : es1[i]? = some (⟨hashT L[i].2.1, .ref L[i].1, us[i]'(by omega)⟩ : DictEntry) := by
      rw [← Array.getElem?_toList, h7, List.getElem?_map, (List.getElem?_zip_eq_some (z := (L[i], us[i]'(by omega)))).mpr ⟨hy, hu⟩]
      rfl
    refine next_key_item st h1 h3 hsz hen fun h' st' sb => ?_
    have I1 : Inv X pins σ H { s with heap := h' } := I.turned (t' := s.toks) (fun b ob hb e => (sb.2 b hb).trans e) f0 f1 f3 f4 f5
    obtain ⟨oi, e, c, dd⟩ := id st'
    exact ⟨.ref L[i].1, rfl, go_of (s := { s with heap := h' }) e c dd (by decide) ⟨.ref L[i].1, H, I1, rfl, ⟨rfl, _, hy, rfl⟩, st', fun b hb => (hf b hb).1⟩⟩
  done := by
    intro X hP hw hK hc i pins s σ H E I hf st hg
    subst hP hw hK
    obtain ⟨hd, hi⟩ := hg
    obtain ⟨f0, f1, f2, f3, f4, f5⟩ := hf it (by simp)
    obtain ⟨⟨o1, es1, ep1, h1, hl, h2, h3, h4, us, h5, h6, h7, h8⟩, _, _⟩ := (show ObjOk X.prog X.w H s.heap p (.ext (DvE p L (some o))) from I.hok p _ hd)
    obtain rfl := hl o rfl
    obtain ⟨rfl, rfl⟩ := dict_ep hod h3
    exact next_key_end (I.ok.hd hc) st h1 h3 (dv_size h5 h7) hi fun h' eb => ⟨rfl, I.turned (t' := s.toks) (fun b ob hb e => eb b ob hb e) f0 f1 f3 f4 f5⟩
  self := fun A i s Q E st h => wpAny_pyIter_keyiter st h
end
theorem dve_lock {X : Cx} {pins : List (Addr × Obj)} {σ : L2.St} {H : Hp} {s : Shared} {p : Addr} {L : List Ve} (I : L2.Inv X pins σ H s) (hp : H p = some (.ext (DvE p L none))) :
    ∃ o es ep, s.heap.get? p = some o ∧ o.ExactDict ∧ o.data = .dict es ep ∧ (p == sysModules) = false ∧ es.size = L.length ∧ L2.Inv X pins σ (upd H p (.ext (DvE p L (some o)))) s := by
  obtain ⟨⟨o, es, ep, h1, hl, h2, h3, h4, us, h5, h6, h7, h8⟩, _, _⟩ := (show ObjOk X.prog X.w H s.heap p (.ext (DvE p L none)) from I.hok p _ hp)
  refine ⟨o, es, ep, h1, h2, h3, h4, dv_size h5 h7, ?_⟩
  exact d_write (h' := s.heap) (t' := s.toks) I (by rw [hp]; exact True.intro) ⟨rfl, fun _ _ => rfl⟩ ⟨o, h1⟩ ⟨⟨o, es, ep, h1, fun _ z => (Option.some.inj z).symm, h2, h3, h4, us, h5, h6, h7, h8⟩, ⟨o, h1⟩, fun g1 g2 ⟨o, es, ep, k1, k0, k2, k3, k4, k5⟩ st => ⟨o, es, ep, st o k1, k0, k2, k3, k4, k5⟩⟩
end DL
set_option maxHeartbeats 1000000
namespace DL
open PySem L2
open PySem.W (Frag)
end DL
set_option maxHeartbeats 1000000
namespace DL
open PySem PySem.Spec PyProof.Rows L2
open PySem.W (Frag)
def tNewV : TE := fun _ H Q => ∀ p, H p = none → Q (.ref p) (upd H p (.ext (DvE p [] none)))
section
variable {X : Cx} {pos : Pos}
theorem dve_empty (h : Heap) (hb : sysModules < h.objs.size) (P : Program) (w : World) (H : Hp) : ObjOk P w H (h.push { cls := .type "dict", data := .dict #[] }) h.objs.size (.ext (DvE h.objs.size [] none)) :=
  dve_new (L := []) (us := []) rfl (fun i x u h => by cases h) (beq_eq_false_iff_ne.mpr (Ne.symm (Nat.ne_of_lt hb))) ⟨_, #[], 0, Heap.get?_push_size _ rfl, ⟨rfl, rfl, rfl⟩, rfl, rfl, fun x hx => (nomatch hx), List.nodup_nil⟩ _
theorem pe_newV : PE X (.Dict [] [] pos) tNewV := ⟨fun pins s σ H Q I h =>
  wpAny_Dict_empty ⟨.ref s.heap.objs.size, _, I.laid (a := s.heap.objs.size) (o := .ext (DvE s.heap.objs.size [] none)) (t' := s.toks) (fun _ _ q => Heap.get?_push_of_some _ q) (Nat.le_refl _) (dve_empty s.heap I.big X.prog X.w _), rfl, h _ (I.hok.fresh (Nat.le_refl _))⟩⟩
end
end DL
namespace DL
open PySem L2
end DL
set_option maxHeartbeats 1000000
namespace DL
open PySem L2
open PySem.W (Frag)
end DL
set_option maxHeartbeats 1000000
namespace BW
open PySem L2 DL
structure ClsR (T : Mat) (c : List Int) (Z : List (List Int)) : Prop where
  one_ : one T ∈ Z
  step : ∀ r ∈ Z, ∀ a ∈ c, press T r (ix a) ∈ Z
structure WI (T : Mat) (c : List Int) (Z : List (List Int)) (ws : List (List Int)) : Prop where
  on : ∀ w ∈ ws, ∀ a ∈ w, a ∈ c
  nil : ws.head? = some []
  nd : (ws.map (row T)).Nodup
  inZ : ∀ w ∈ ws, row T w ∈ Z
  sh : ∀ w ∈ ws, w.length + 1 ≤ ws.length
theorem WI.len {T : Mat} {c : List Int} {Z ws : List (List Int)} (h : WI T c Z ws) : ws.length ≤ Z.length := by
  have := nd_sub_len (z := Z) h.nd fun r hr => by
    obtain ⟨w, hw, rfl⟩ := List.mem_map.mp hr
    exact h.inZ w hw
  rwa [List.length_map] at this
abbrev Shut (T : Mat) (c : List Int) (ws : List (List Int)) (r : List Int) : Prop := ∀ a ∈ c, press T r (ix a) ∈ ws.map (row T)
theorem mem_row {T : Mat} {ws : List (List Int)} {v r : List Int} (h : r ∈ ws.map (row T)) : r ∈ (ws ++ [v]).map (row T) := by
  rw [List.map_append]; exact List.mem_append_left _ h
theorem Shut.more {T : Mat} {c : List Int} {ws : List (List Int)} {v r : List Int} (h : Shut T c ws r) : Shut T c (ws ++ [v]) r := fun a ha => mem_row (h a ha)
end BW
set_option autoImplicit false
set_option maxHeartbeats 1000000
namespace BW
open PySem L2 DL
def okB (z : Int) : Bool := z == 2 || z == 3 || z == 4 || z == 6 || z == 0
def tabB (M : Mat) : Bool := decide (1 ≤ M.length) && decide (M.length ≤ 6) && ((List.range M.length).all fun i => (M.getD i []).length == M.length && at2 M i i == 1 && (List.range M.length).all fun j => (i == j || okB (at2 M i j)) && at2 M i j == at2 M j i)
theorem tabB_ok {M : Mat} (h : tabB M = true) : Tab M := by
  unfold tabB at h
  rw [Bool.and_eq_true_iff, Bool.and_eq_true_iff, List.all_eq_true] at h
  obtain ⟨⟨h1, h2⟩, h3⟩ := h
  have g : ∀ i, i < M.length → ((M.getD i []).length == M.length && at2 M i i == 1 && (List.range M.length).all fun j => (i == j || okB (at2 M i j)) && at2 M i j == at2 M j i) = true := fun i hi => h3 i (List.mem_range.mpr hi)
  have g2 : ∀ i j, i < M.length → j < M.length → (i == j || okB (at2 M i j)) = true ∧ at2 M i j = at2 M j i := fun i j hi hj => by
    have := g i hi
    rw [Bool.and_eq_true_iff, List.all_eq_true] at this
    have := this.2 j (List.mem_range.mpr hj)
    rw [Bool.and_eq_true_iff] at this
    exact ⟨this.1, eq_of_beq this.2⟩
  refine ⟨of_decide_eq_true h1, of_decide_eq_true h2, fun i hi => ?_, fun i hi => ?_, fun i j hi hj ne => ?_, fun i j hi hj => (g2 i j hi hj).2⟩
  · have := g i hi
    rw [Bool.and_eq_true_iff, Bool.and_eq_true_iff] at this
    exact eq_of_beq this.1.1
  · have := g i hi
    rw [Bool.and_eq_true_iff, Bool.and_eq_true_iff] at this
    exact eq_of_beq this.1.2
  · have := (g2 i j hi hj).1
    rw [Bool.or_eq_true] at this
    rcases this with q | q
    · exact absurd (eq_of_beq q) ne
    · unfold okB at q
      simp only [Bool.or_eq_true, beq_iff_eq] at q
      omega
theorem shf_len (M : Mat) (o : List Nat) : (shf M o).length = o.length := List.length_map ..
theorem shf_row {M : Mat} {o : List Nat} {i : Nat} (hi : i < o.length) : (shf M o).getD i [] = o.map fun j => at2 M (o.getD i 0) j := by
  unfold shf
  rw [List.getD_eq_getElem?_getD, List.getElem?_map, getD_get (d := 0) hi]
  rfl
theorem shf_at {M : Mat} {o : List Nat} {i j : Nat} (hi : i < o.length) (hj : j < o.length) : at2 (shf M o) i j = at2 M (o.getD i 0) (o.getD j 0) := by
  show ((shf M o).getD i []).getD j 0 = _
  rw [shf_row hi, List.getD_eq_getElem?_getD, List.getElem?_map, getD_get (d := 0) hj]
  rfl
theorem shf_tab {M : Mat} {o : List Nat} (h : Tab M) (ho : o.Perm (List.range M.length)) : Tab (shf M o) := by
  have ol : o.length = M.length := by rw [ho.length_eq, List.length_range]
  have om : ∀ i, i < o.length → o.getD i 0 < M.length := fun i hi => List.mem_range.mp (ho.subset (List.mem_of_getElem? (getD_get (d := 0) hi)))
  have nd : o.Nodup := ho.nodup_iff.mpr List.nodup_range
  refine ⟨?_, ?_, fun i hi => ?_, fun i hi => ?_, fun i j hi hj ne => ?_, fun i j hi hj => ?_⟩
  · rw [shf_len, ol]; exact h.lo
  · rw [shf_len, ol]; exact h.hi
  · rw [shf_len] at hi
    rw [shf_row hi, List.length_map, shf_len]
  · rw [shf_len] at hi
    rw [shf_at hi hi]
    exact h.dg _ (om i hi)
  · rw [shf_len] at hi hj
    rw [shf_at hi hj]
    refine h.of _ _ (om i hi) (om j hj) fun z => ne ?_
    have a := getD_get (xs := o) (d := 0) hi
    have b := getD_get (xs := o) (d := 0) hj
    rw [z] at a
    obtain ⟨_, a1⟩ := List.getElem?_eq_some_iff.mp a
    obtain ⟨_, b1⟩ := List.getElem?_eq_some_iff.mp b
    rcases Nat.lt_trichotomy i j with c | c | c
    · exact absurd (a1.trans b1.symm) (List.pairwise_iff_getElem.mp nd i j hi hj c)
    · exact c
    · exact absurd (b1.trans a1.symm) (List.pairwise_iff_getElem.mp nd j i hj hi c)
  · rw [shf_len] at hi hj
    rw [shf_at hi hj, shf_at hj hi]
    exact h.sy _ _ (om i hi) (om j hj)
theorem prod_tabs : ∀ a ∈ FL, ∀ b ∈ FL, 1 ≤ a.1.length → a.1.length + b.1.length ≤ 6 → tabB (prodM a.1 b.1) = true := by decide +kernel
theorem prod_len (A B : Mat) : (prodM A B).length = A.length + B.length := by
  unfold prodM
  rw [List.length_append, List.length_map, List.length_map]
theorem FinT.tab {most : Nat} {T : Mat} {w l : Int} (h : FinT most T w l) (hm : most ≤ 6) : Tab T := by
  obtain ⟨a, b, o, ha, hb, h1, h2, ho, rfl, _, _⟩ := h.h
  exact shf_tab (tabB_ok (prod_tabs a ha b hb h1 (by omega))) (by rw [prod_len]; exact ho)
def bfs (T : Mat) : Nat → List (List Int) → List (List Int) → List (List Int)
  | 0, Z, _ => Z
  | n + 1, Z, F =>
    let G := (F.flatMap fun r => (List.range T.length).map fun i => press T r i).foldl (fun G r => if Z.contains r || G.contains r then G else G ++ [r]) []
    if G.isEmpty then Z else bfs T n (Z ++ G) G
def rowsT (T : Mat) : List (List Int) := bfs T 20 [one T] [one T]
def shutB (T : Mat) : Bool := (rowsT T).contains (one T) && ((rowsT T).all fun r => (List.range T.length).all fun i => (rowsT T).contains (press T r i)) && decide ((rowsT T).length ≤ 50)
def prm : Nat → List (List Nat)
  | 1 => [[0]]
  | 2 => [[0, 1], [1, 0]]
  | 3 => [[0, 1, 2], [0, 2, 1], [1, 0, 2], [1, 2, 0], [2, 0, 1], [2, 1, 0]]
  | _ => []
theorem prm_ok {n : Nat} {o : List Nat} (h1 : 1 ≤ n) (h3 : n ≤ 3) (ho : o.Perm (List.range n)) : o ∈ prm n := by
  have ol : o.length = n := by rw [ho.length_eq, List.length_range]
  have om : ∀ x ∈ o, x < n := fun x hx => List.mem_range.mp (ho.subset hx)
  have nd : o.Nodup := ho.nodup_iff.mpr List.nodup_range
  rcases (by omega : n = 1 ∨ n = 2 ∨ n = 3) with rfl | rfl | rfl
  · match o, ol, om with
    | [x], _, om =>
      have := om x (by simp)
      obtain rfl : x = 0 := by omega
      decide
  · match o, ol, om, nd with
    | [x, y], _, om, nd =>
      have a := om x (by simp)
      have b := om y (by simp)
      rcases (by omega : x = 0 ∨ x = 1) with rfl | rfl <;> rcases (by omega : y = 0 ∨ y = 1) with rfl | rfl <;> first | decide | exact absurd nd (by decide)
  · match o, ol, om, nd with
    | [x, y, z], _, om, nd =>
      have a := om x (by simp)
      have b := om y (by simp)
      have c := om z (by simp)
      rcases (by omega : x = 0 ∨ x = 1 ∨ x = 2) with rfl | rfl | rfl <;> rcases (by omega : y = 0 ∨ y = 1 ∨ y = 2) with rfl | rfl | rfl <;> rcases (by omega : z = 0 ∨ z = 1 ∨ z = 2) with rfl | rfl | rfl <;> first | decide | exact absurd nd (by decide)
theorem small_shut : ∀ a ∈ FL, ∀ b ∈ FL, 1 ≤ a.1.length → a.1.length + b.1.length ≤ 3 → ∀ o ∈ prm (a.1.length + b.1.length), shutB (shf (prodM a.1 b.1) o) = true := by decide +kernel
theorem FinT.cls {T : Mat} {w l : Int} (h : FinT 3 T w l) {c : List Int} (hc : Wd T.length c) : ClsR T c (rowsT T) ∧ (rowsT T).length ≤ 50 := by
  obtain ⟨a, b, o, ha, hb, h1, h2, ho, rfl, _, _⟩ := h.h
  have q := small_shut a ha b hb h1 h2 o (prm_ok (by omega) h2 ho)
  unfold shutB at q
  rw [Bool.and_eq_true_iff, Bool.and_eq_true_iff, List.all_eq_true] at q
  obtain ⟨⟨q1, q2⟩, q3⟩ := q
  refine ⟨⟨List.contains_iff_mem.mp q1, fun r hr x hx => ?_⟩, of_decide_eq_true q3⟩
  have := List.all_eq_true.mp (q2 r hr) (ix x) (List.mem_range.mpr (by have := hc x hx; unfold ix; omega))
  exact List.contains_iff_mem.mp this
end BW
set_option autoImplicit false
set_option maxHeartbeats 1000000
namespace BW
open PySem
abbrev Ov (c w : List Int) : Prop := ∀ a ∈ w, a ∈ c
theorem ov_wd {n : Nat} {c w : List Int} (hc : Wd n c) (h : Ov c w) : Wd n w := fun a ha => hc a (h a ha)
theorem row_pre2 {T : Mat} (ht : Tab T) {u v z y : List Int} (hz : Wd T.length z) (hu : Wd T.length u) (hv : Wd T.length v) (e : row T u = row T v) : row T (z ++ u ++ y) = row T (z ++ v ++ y) := row_app (row_pre ht hz hu hv e)
end BW
set_option autoImplicit false
set_option maxHeartbeats 1000000
set_option autoImplicit false
set_option maxHeartbeats 1000000
namespace BW
open PySem L2 DL
def Same (T : Mat) (I J z z2 : List Int) : Prop := ∃ A B : List Int, Ov I A ∧ Ov J B ∧ row T z2 = row T (A ++ z ++ B)
theorem Same.trans {T : Mat} (ht : Tab T) {I J x y z : List Int} (hI : Wd T.length I) (hJ : Wd T.length J) (hx : Wd T.length x) (hy : Wd T.length y) (a : Same T I J x y) (b : Same T I J y z) : Same T I J x z := by
  obtain ⟨A, B, h1, h2, e1⟩ := a
  obtain ⟨C, D, g1, g2, e2⟩ := b
  refine ⟨C ++ A, B ++ D, fun a ha => (List.mem_append.mp ha).elim (g1 a) (h1 a), fun a ha => (List.mem_append.mp ha).elim (h2 a) (g2 a), ?_⟩
  have := row_pre2 ht (z := C) (y := D) (ov_wd hI g1) hy (wd_app (wd_app (ov_wd hI h1) hx) (ov_wd hJ h2)) e1
  rw [e2, this]
  simp [List.append_assoc]
theorem rev_row {T : Mat} (ht : Tab T) {A : List Int} (hA : Wd T.length A) : row T (A.reverse ++ A) = row T [] := by
  have := row_back ht (l := A.reverse) (u := []) (z := A.reverse) (wd_rev hA) rfl
  rwa [List.reverse_reverse] at this
theorem Same.symm {T : Mat} (ht : Tab T) {I J x y : List Int} (hI : Wd T.length I) (hJ : Wd T.length J) (hx : Wd T.length x) (hy : Wd T.length y) (a : Same T I J x y) : Same T I J y x := by
  obtain ⟨A, B, h1, h2, e1⟩ := a
  have wA := ov_wd hI h1
  have wB := ov_wd hJ h2
  refine ⟨A.reverse, B.reverse, fun a ha => h1 a (List.mem_reverse.mp ha), fun a ha => h2 a (List.mem_reverse.mp ha), ?_⟩
  have e := row_pre2 ht (z := A.reverse) (y := B.reverse) (wd_rev wA) hy (wd_app (wd_app wA hx) wB) e1
  have q1 : row T (A.reverse ++ (A ++ x ++ B)) = row T (x ++ B) := by
    have := row_app (z := x ++ B) (rev_row ht wA)
    rw [List.append_assoc] at this
    rw [List.append_assoc]
    exact this
  rw [e]
  exact (row_back ht (l := B) (u := x) (z := A.reverse ++ (A ++ x ++ B)) wB q1).symm
end BW
set_option autoImplicit false
set_option maxHeartbeats 1000000
namespace BW
open PySem L2 DL
def Neg (T : Mat) (J w : List Int) : Prop := ∀ a ∈ J, (row T w).getD (ix a) 0 < 0
theorem row_two {T : Mat} (u : List Int) {v : List Int} (hv : Wd T.length v) {i : Nat} (hi : i < T.length) : (row T (u ++ v)).getD i 0 = pg T.length (row T u) (TT.act T.length (wt T) (v.map ix) (TT.eb i)) := by
  have e : row T (u ++ v) = pl T (row T u) v := by rw [row_pl, row_pl]; unfold pl; rw [List.foldl_append]
  rw [e, ← pg_eb (n := T.length) hi, pg_pl hv]
def supJ (P : Nat → Prop) (x : TT.Vec) : Prop := ∀ j, ¬ P j → x j = 0
theorem supJ_act {n : Nat} {W : Nat → Nat → Int} {P : Nat → Prop} {x : TT.Vec} (h : supJ P x) : ∀ {w : List Nat}, (∀ a ∈ w, P a) → supJ P (TT.act n W w x)
  | [], _ => h
  | a :: w, hw => fun j hj => by
    have ih := supJ_act (n := n) (W := W) h (w := w) fun b hb => hw b (List.mem_cons_of_mem _ hb)
    show TT.sg n W a (TT.act n W w x) j = 0
    unfold TT.sg TT.mv
    have ne : j ≠ a := fun z => hj (z ▸ hw a List.mem_cons_self)
    rw [if_neg ne]
    exact ih j hj
theorem pg_neg {n : Nat} {r : List Int} {x : TT.Vec} (h0 : ∀ j, j < n → 0 ≤ x j) (h1 : 1 ≤ TT.sm x n) (hr : ∀ j, j < n → x j ≠ 0 → r.getD j 0 < 0) : pg n r x < 0 := by
  have e : TT.sm (fun j => (-1) * (r.getD j 0 * x j) + (-1) * x j) n = (-1) * pg n r x + (-1) * TT.sm x n := by
    rw [TT.sm_add (f := fun j => (-1) * (r.getD j 0 * x j)) (g := fun j => (-1) * x j), TT.sm_mul (f := fun j => r.getD j 0 * x j), TT.sm_mul (f := x)]
    rfl
  have nn : 0 ≤ TT.sm (fun j => (-1) * (r.getD j 0 * x j) + (-1) * x j) n := TT.sm_nn fun j hj => by
    by_cases z : x j = 0
    · rw [z]; omega
    · have a := hr j hj z
      have b : 1 ≤ x j := by have := h0 j hj; omega
      have c : r.getD j 0 * x j ≤ (-1) * x j := Int.mul_le_mul_of_nonneg_right (by omega) (by omega)
      omega
  rw [e] at nn
  omega
theorem act_pos {T : Mat} (ht : Tab T) {v : List Int} (hv : Wd T.length v) {i : Nat} (hi : i < T.length) (h : 0 < (row T v).getD i 0) : TT.Pos T.length (wt T) (TT.act T.length (wt T) (v.map ix) (TT.eb i)) := by
  rcases TT.sp_act (car_of ht) hi (lets_of hv) with q | q
  · exact q
  · have a := q.ht
    rw [TT.sm_neg] at a
    rw [row_hv hv hi] at h
    unfold TT.hv at h
    omega
theorem flip_neg {T : Mat} (ht : Tab T) {J w v : List Int} (hJ : Wd T.length J) (hn : Neg T J w) (hv : Ov J v) {a : Int} (ha : a ∈ J) (hp : 0 < (row T v).getD (ix a) 0) : (row T (w ++ v)).getD (ix a) 0 < 0 := by
  have wv := ov_wd hJ hv
  have hi : ix a < T.length := ix_lt (hJ a ha)
  have p := act_pos ht wv hi hp
  rw [row_two w wv hi]
  refine pg_neg (fun j _ => p.nn j) p.ht fun j hj ne => ?_
  have s : supJ (fun j => ∃ b ∈ J, ix b = j) (TT.act T.length (wt T) (v.map ix) (TT.eb (ix a))) := supJ_act (fun j hj => by
    unfold TT.eb
    exact if_neg fun z => hj ⟨a, ha, z.symm⟩) fun b hb => by
    obtain ⟨c, hc, rfl⟩ := List.mem_map.mp hb
    exact ⟨c, hv c hc, rfl⟩
  obtain ⟨b, hb, rfl⟩ : ∃ b ∈ J, ix b = j := Classical.byContradiction fun z => ne (s j z)
  exact hn b hb
theorem fall_at52 {T : Mat} {w : List Int} {a : Int} (h : 1 ≤ a ∧ a ≤ T.length) (hn : (row T w).getD (ix a) 0 < 0) : a ∈ fall (row T w) := by
  have := mem_fallX (i := ix a) (by rw [row_length]; exact ix_lt h) hn
  have e : ((ix a : Nat) : Int) + 1 = a := by unfold ix; omega
  rwa [e] at this
theorem sh_up {T : Mat} (ht : Tab T) {u : List Int} {a : Int} (hu : Wd T.length (u ++ [a])) (sh : Sh T (u ++ [a])) : Sh T u ∧ 0 < (row T u).getD (ix a) 0 := by
  have wu : Wd T.length u := fun b hb => hu b (List.mem_append_left _ hb)
  have ha := hu a (List.mem_append_right _ (List.mem_singleton.mpr rfl))
  obtain ⟨i, hi, rfl⟩ : ∃ i : Nat, i < T.length ∧ (i : Int) + 1 = a := ⟨(a - 1).toNat, by omega, by omega⟩
  obtain ⟨h1, h2⟩ := Sh.last ht hi wu sh
  refine ⟨h2, ?_⟩
  rw [ix_succ]
  have nz := row_nz ht wu hi
  refine Classical.byContradiction fun c => ?_
  obtain ⟨j, e, hj, _, _⟩ := LN.step ht wu h2 (fall_at52 (a := (i : Int) + 1) (by omega) (by rw [ix_succ]; omega))
  have := hj.uniq sh
  rw [List.length_append, List.length_singleton] at this
  omega
theorem lon {T : Mat} (ht : Tab T) {J w : List Int} (hJ : Wd T.length J) (hw : Wd T.length w) (hn : Neg T J w) {L : Nat} (hL : LN T w L) : ∀ (n : Nat) {v : List Int}, v.length = n → Ov J v → Sh T v → LN T (w ++ v) (L - n) ∧ n ≤ L
  | 0, v, hv, _, _ => by
    rw [List.length_eq_zero_iff.mp hv, List.append_nil]
    exact ⟨hL, Nat.zero_le _⟩
  | n + 1, v, hv, ho, sh => by
    obtain ⟨u, a, rfl⟩ : ∃ u a, v = u ++ [a] := by
      rcases List.eq_nil_or_concat v with rfl | ⟨u, a, e⟩
      · simp at hv
      · exact ⟨u, a, by rw [e, List.concat_eq_append]⟩
    rw [List.length_append, List.length_singleton] at hv
    have wv := ov_wd hJ ho
    have ou : Ov J u := fun b hb => ho b (List.mem_append_left _ hb)
    have aJ := ho a (List.mem_append_right _ (List.mem_singleton.mpr rfl))
    obtain ⟨s1, p1⟩ := sh_up ht wv sh
    obtain ⟨h1, h2⟩ := lon ht hJ hw hn hL n (by omega) ou s1
    have f := flip_neg ht hJ hn ou aJ p1
    obtain ⟨j, e, hj, _, _⟩ := LN.step ht (wd_app hw (ov_wd hJ ou)) h1 (fall_at52 (hJ a aJ) f)
    rw [List.append_assoc] at hj
    have : L - (n + 1) = j := by omega
    rw [this]
    exact ⟨hj, by omega⟩
theorem sub_ov {J x z : List Int} (h : z.Sublist x) (hx : Ov J x) : Ov J z := fun a ha => hx a (h.subset ha)
theorem lon2 {T : Mat} (ht : Tab T) {J w : List Int} (hJ : Wd T.length J) (hw : Wd T.length w) (hn : Neg T J w) {L : Nat} (hL : LN T w L) {v : List Int} (ho : Ov J v) {k : Nat} (hk : LN T v k) : LN T (w ++ v) (L - k) ∧ k ≤ L := by
  have wv := ov_wd hJ ho
  obtain ⟨z, z1, z2, z3⟩ := sub_short ht _ (Nat.le_refl _) wv
  have wz := wd_sub z1 wv
  have e : z.length = k := (z2.cong wz wv z3).uniq hk
  obtain ⟨h1, h2⟩ := lon ht hJ hw hn hL k e (sub_ov z1 ho) z2
  exact ⟨h1.cong (wd_app hw wz) (wd_app hw wv) (row_pre ht hw wz wv z3), h2⟩
theorem ln_zero {T : Mat} (ht : Tab T) {w : List Int} (hw : Wd T.length w) (h : LN T w 0) : row T w = one T := by
  refine ext_getD (by rw [row_length, one_len]) fun c hc => ?_
  rw [row_length] at hc
  rw [LN.one_of ht hw h hc]
  unfold one
  rw [List.getD_eq_getElem?_getD, List.getElem?_replicate, if_pos hc]
  rfl
theorem lon_two {T : Mat} (ht : Tab T) {J w v : List Int} (hJ : Wd T.length J) (ow : Ov J w) (ov : Ov J v) (hw : Neg T J w) (hv : Neg T J v) : row T w = row T v := by
  have ww := ov_wd hJ ow
  have wv := ov_wd hJ ov
  obtain ⟨L, hL, _⟩ := LN.has (T := T) ww
  obtain ⟨M, hM, _⟩ := LN.has (T := T) wv
  obtain ⟨a1, a2⟩ := lon2 ht hJ ww hw hL ov hM
  obtain ⟨b1, b2⟩ := lon2 ht hJ wv hv hM ow hL
  obtain ⟨c1, _⟩ := lon2 ht hJ ww hw hL ow hL
  have e : L = M := by omega
  subst e
  rw [Nat.sub_self] at a1 c1
  have e1 := ln_zero ht (wd_app ww wv) a1
  have e2 := ln_zero ht (wd_app ww ww) c1
  have h1 := row_pre ht (z := w.reverse) (wd_rev ww) (wd_app ww wv) (wd_app ww ww) (e1.trans e2.symm)
  have q := rev_row ht ww
  have h2 : ∀ y, row T (w.reverse ++ (w ++ y)) = row T y := fun y => by
    have := row_app (z := y) q
    rw [List.append_assoc] at this
    exact this
  rw [h2, h2] at h1
  exact h1.symm
theorem lg_some {T : Mat} (ht : Tab T) {c : List Int} (hc : Wd T.length c) : ∀ (n : Nat) {u z : List Int}, Ov c u → Sh T u → lgF T c n (row T u) u = some z → Ov c z ∧ Sh T z ∧ Neg T c z ∧ z.length < u.length + n
  | 0, u, z, _, _, h => nomatch h
  | n + 1, u, z, ou, su, h => by
    have wu := ov_wd hc ou
    have h : (match hiL c (row T u) with | [] => some u | a :: _ => lgF T c n (press T (row T u) (ix a)) (u ++ [a])) = some z := h
    cases e : hiL c (row T u) with
    | nil =>
      rw [e] at h
      cases h
      refine ⟨ou, su, fun a ha => ?_, by omega⟩
      have nz := row_nz ht wu (ix_lt (hc a ha))
      have : ¬ (decide (0 < (row T u).getD (ix a) 0) = true) := fun q => by
        have : a ∈ hiL c (row T u) := List.mem_filter.mpr ⟨ha, q⟩
        rw [e] at this
        exact nomatch this
      have : ¬ 0 < (row T u).getD (ix a) 0 := fun q => this (decide_eq_true q)
      omega
    | cons a l =>
      rw [e] at h
      obtain ⟨ac, ap⟩ := List.mem_filter.mp (e ▸ List.mem_cons_self : a ∈ hiL c (row T u))
      have ap := of_decide_eq_true ap
      have ab := hc a ac
      obtain ⟨i, hi, rfl⟩ : ∃ i : Nat, i < T.length ∧ (i : Int) + 1 = a := ⟨(a - 1).toNat, by omega, by omega⟩
      have m := LN.more ht wu su hi
      have nf : ¬ ((i : Int) + 1) ∈ fall (row T u) := fun q => by
        obtain ⟨j, hj1, hj, _, _⟩ := LN.step ht wu su q
        rw [ix_succ] at ap
        have up := TT.Ln.up (car_of ht) hi (lets_of wu) su (by rw [← row_hv wu hi]; exact ap)
        have e3 : (u ++ [(i : Int) + 1]).map ix = u.map ix ++ [i] := by rw [List.map_append]; simp [ix_succ]
        have hj : TT.Ln T.length (wt T) ((u ++ [(i : Int) + 1]).map ix) j := hj
        rw [e3] at hj
        have := up.uniq hj
        omega
      rw [if_neg nf] at m
      have su2 : Sh T (u ++ [(i : Int) + 1]) := by
        show LN T _ (List.length _)
        rw [List.length_append, List.length_singleton]
        exact m
      have e1 : press T (row T u) (ix ((i : Int) + 1)) = row T (u ++ [(i : Int) + 1]) := by rw [row_snoc]
      have h : lgF T c n (press T (row T u) (ix ((i : Int) + 1))) (u ++ [(i : Int) + 1]) = some z := h
      rw [e1] at h
      obtain ⟨g1, g2, g3, g4⟩ := lg_some ht hc n (fun b hb => (List.mem_append.mp hb).elim (ou b) fun q => by rw [List.mem_singleton.mp q]; exact ac) su2 h
      rw [List.length_append, List.length_singleton] at g4
      exact ⟨g1, g2, g3, by omega⟩
theorem lg_ex {T : Mat} (ht : Tab T) {c w : List Int} (hc : Wd T.length c) (ow : Ov c w) (hw : Neg T c w) {L : Nat} (hL : LN T w L) : ∀ (n : Nat) {u : List Int}, Ov c u → Sh T u → L < u.length + n → ∃ z, lgF T c n (row T u) u = some z
  | 0, u, ou, su, h => by
    have := (lon2 ht hc (ov_wd hc ow) hw hL ou su).2
    omega
  | n + 1, u, ou, su, h => by
    have wu := ov_wd hc ou
    show ∃ z, (match hiL c (row T u) with | [] => some u | a :: _ => lgF T c n (press T (row T u) (ix a)) (u ++ [a])) = some z
    cases e : hiL c (row T u) with
    | nil => exact ⟨u, rfl⟩
    | cons a l =>
      obtain ⟨ac, ap⟩ := List.mem_filter.mp (e ▸ List.mem_cons_self : a ∈ hiL c (row T u))
      have ap := of_decide_eq_true ap
      have ab := hc a ac
      obtain ⟨i, hi, rfl⟩ : ∃ i : Nat, i < T.length ∧ (i : Int) + 1 = a := ⟨(a - 1).toNat, by omega, by omega⟩
      rw [ix_succ] at ap
      have up := TT.Ln.up (car_of ht) hi (lets_of wu) su (by rw [← row_hv wu hi]; exact ap)
      have e3 : (u ++ [(i : Int) + 1]).map ix = u.map ix ++ [i] := by rw [List.map_append]; simp [ix_succ]
      rw [← e3] at up
      have su2 : Sh T (u ++ [(i : Int) + 1]) := by
        show LN T _ (List.length _)
        rw [List.length_append, List.length_singleton]
        exact up
      have e1 : press T (row T u) (ix ((i : Int) + 1)) = row T (u ++ [(i : Int) + 1]) := by rw [row_snoc]
      show ∃ z, lgF T c n (press T (row T u) (ix ((i : Int) + 1))) (u ++ [(i : Int) + 1]) = some z
      rw [e1]
      exact lg_ex ht hc ow hw hL n (fun b hb => (List.mem_append.mp hb).elim (ou b) fun q => by rw [List.mem_singleton.mp q]; exact ac) su2 (by rw [List.length_append, List.length_singleton]; omega)
theorem sh_nil {T : Mat} : Sh T [] := by
  obtain ⟨k, hk, le⟩ := LN.has (T := T) (w := []) fun a h => nomatch h
  have : k = 0 := Nat.le_zero.mp le
  subst this
  exact hk
theorem lg_len {T : Mat} (ht : Tab T) {c w : List Int} (hc : Wd T.length c) (ow : Ov c w) (hw : Neg T c w) {L : Nat} (hL : LN T w L) (h60 : L ≤ 60) : ∃ z, lgF T c 61 (one T) [] = some z ∧ Ov c z ∧ Sh T z ∧ Neg T c z ∧ z.length = L := by
  obtain ⟨z, hz⟩ := lg_ex ht hc ow hw hL 61 (u := []) (fun a h => nomatch h) sh_nil (by show L < 0 + 61; omega)
  obtain ⟨g1, g2, g3, g4⟩ := lg_some ht hc 61 (u := []) (fun a h => nomatch h) sh_nil hz
  refine ⟨z, hz, g1, g2, g3, ?_⟩
  exact (g2.cong (ov_wd hc g1) (ov_wd hc ow) (lon_two ht hc g1 ow g3 hw)).uniq hL
end BW
set_option autoImplicit false
set_option maxHeartbeats 1000000
set_option autoImplicit false
set_option maxHeartbeats 1000000
namespace BW
open PySem L2 DL
structure Iso (T S : Mat) (f g : Int → Int) : Prop where
  len : S.length = T.length
  fw : ∀ a : Int, 1 ≤ a → a ≤ T.length → 1 ≤ f a ∧ f a ≤ T.length ∧ g (f a) = a
  gw : ∀ a : Int, 1 ≤ a → a ≤ T.length → 1 ≤ g a ∧ g a ≤ T.length ∧ f (g a) = a
  at_ : ∀ a b : Int, 1 ≤ a → a ≤ T.length → 1 ≤ b → b ≤ T.length → at2 S (ix (f a)) (ix (f b)) = at2 T (ix a) (ix b)
section
variable {T S : Mat} {f g : Int → Int}
theorem Iso.symm (h : Iso T S f g) : Iso S T g f := by
  have e := h.len
  refine ⟨e.symm, fun a h1 h2 => ?_, fun a h1 h2 => ?_, fun a b h1 h2 h3 h4 => ?_⟩
  · rw [e] at h2 ⊢; exact h.gw a h1 h2
  · rw [e] at h2 ⊢; exact h.fw a h1 h2
  · rw [e] at h2 h4
    obtain ⟨a1, a2, a3⟩ := h.gw a h1 h2
    obtain ⟨b1, b2, b3⟩ := h.gw b h3 h4
    have := h.at_ (g a) (g b) a1 a2 b1 b2
    rw [a3, b3] at this
    exact this.symm
theorem Iso.wd (h : Iso T S f g) {w : List Int} (hw : Wd T.length w) : Wd S.length (w.map f) := fun b hb => by
  obtain ⟨a, ha, rfl⟩ := List.mem_map.mp hb
  have q := hw a ha
  obtain ⟨h1, h2, _⟩ := h.fw a q.1 q.2
  rw [h.len]
  exact ⟨h1, h2⟩
theorem Iso.back (h : Iso T S f g) {w : List Int} (hw : Wd T.length w) : (w.map f).map g = w := by
  rw [List.map_map]
  conv => rhs; rw [← List.map_id w]
  exact List.map_congr_left fun a ha => by
    have q := hw a ha
    exact (h.fw a q.1 q.2).2.2
theorem alt_map (f : Int → Int) (n : Nat) (a b : Int) : (alt a b n).map f = alt (f a) (f b) n := by
  unfold alt
  rw [List.map_map]
  refine List.map_congr_left fun i _ => ?_
  show f (if i % 2 = 0 then a else b) = _
  split <;> rfl
theorem tn1_wd {u v : List Int} (h : Tn1 T u v) (hu : Wd T.length u) : Wd T.length v := by
  obtain ⟨p, s, i, j, hi, hj, ne, b, rfl, rfl⟩ := h
  intro c hc
  rcases List.mem_append.mp hc with hc | hc
  · rcases List.mem_append.mp hc with hc | hc
    · exact hu c (List.mem_append_left _ (List.mem_append_left _ hc))
    · rcases alt_all hc with rfl | rfl <;> omega
  · exact hu c (List.mem_append_right _ hc)
theorem Iso.turn (h : Iso T S f g) (ht : Tab S) {u v : List Int} (q : Tn1 T u v) : row S (u.map f) = row S (v.map f) := by
  obtain ⟨p, s, i, j, hi, hj, ne, b, rfl, rfl⟩ := q
  have hl := h.len
  obtain ⟨i1, i2, i3⟩ := h.fw ((i : Int) + 1) (by omega) (by omega)
  obtain ⟨j1, j2, j3⟩ := h.fw ((j : Int) + 1) (by omega) (by omega)
  have e := h.at_ ((i : Int) + 1) ((j : Int) + 1) (by omega) (by omega) (by omega) (by omega)
  rw [ix_succ, ix_succ] at e
  obtain ⟨a, ha, ea⟩ : ∃ a : Nat, a < S.length ∧ f ((i : Int) + 1) = (a : Int) + 1 := ⟨(f ((i : Int) + 1) - 1).toNat, by omega, by omega⟩
  obtain ⟨c, hc, ec⟩ : ∃ c : Nat, c < S.length ∧ f ((j : Int) + 1) = (c : Int) + 1 := ⟨(f ((j : Int) + 1) - 1).toNat, by omega, by omega⟩
  rw [ea, ec, ix_succ, ix_succ] at e
  have nac : a ≠ c := fun z => by
    rw [ea] at i3
    rw [ec] at j3
    rw [z] at i3
    rw [i3] at j3
    omega
  rw [List.map_append, List.map_append, List.map_append, List.map_append, alt_map, alt_map, ea, ec, ← e]
  exact row_app (row_altX ht ha hc nac (by rw [e]; exact b))
theorem Iso.led (h : Iso T S f g) (ht : Tab S) {u v : List Int} (hu : Wd T.length u) (q : Led T u v) : row S (u.map f) = row S (v.map f) := by
  induction q with
  | refl => rfl
  | turn a _ ih => exact (h.turn ht a).trans (ih (tn1_wd a hu))
  | out a _ ih =>
    obtain ⟨p, s, b, rfl, rfl⟩ := a
    have hb := hu b (List.mem_append_left _ (List.mem_append_right _ List.mem_cons_self))
    obtain ⟨h1, h2, _⟩ := h.fw b hb.1 hb.2
    have hl := h.len
    obtain ⟨a, ha, ea⟩ : ∃ a : Nat, a < S.length ∧ f b = (a : Int) + 1 := ⟨(f b - 1).toNat, by omega, by omega⟩
    refine Eq.trans ?_ (ih fun c hc => (List.mem_append.mp hc).elim (fun q => hu c (List.mem_append_left _ (List.mem_append_left _ q))) fun q => hu c (List.mem_append_right _ q))
    rw [List.map_append, List.map_append, List.map_append]
    refine row_app ?_
    show row S (p.map f ++ [f b, f b]) = _
    rw [ea]
    have := row_undo ht (w := p.map f) ha
    rw [List.append_assoc] at this
    exact this
theorem Iso.tn (h : Iso T S f g) (ht : Tab S) {u v : List Int} (q : Tn T u v) : row S (u.map f) = row S (v.map f) := by
  induction q with
  | refl => rfl
  | step a _ ih => exact (h.turn ht a).trans ih
theorem Iso.row (h : Iso T S f g) (hT : Tab T) (hS : Tab S) {u v : List Int} (hu : Wd T.length u) (hv : Wd T.length v) (e : row T u = row T v) : row S (u.map f) = row S (v.map f) := by
  obtain ⟨x, x1, x2, x3, x4⟩ := tits hT _ rfl hu
  obtain ⟨y, y1, y2, y3, y4⟩ := tits hT _ rfl hv
  have m := matsumoto hT _ rfl x2 y2 x3 y3 (x4.trans (e.trans y4.symm))
  exact (h.led hS hu x1).trans ((h.tn hS m).trans (h.led hS hv y1).symm)
theorem Iso.le (h : Iso T S f g) (hT : Tab T) (hS : Tab S) {u : List Int} (hu : Wd T.length u) {j k : Nat} (hj : LN T u j) (hk : LN S (u.map f) k) : j ≤ k := by
  have wu := h.wd hu
  obtain ⟨z, z1, z2, z3⟩ := short_of wu hk
  have e := h.symm.row hS hT z1 wu z3
  rw [h.back hu] at e
  have wz := h.symm.wd z1
  have := TT.Ln.le_len (lets_of wz) (hj.cong hu wz e.symm)
  rw [List.length_map, List.length_map] at this
  omega
theorem Iso.ln (h : Iso T S f g) (hT : Tab T) (hS : Tab S) {u : List Int} (hu : Wd T.length u) {k : Nat} (hk : LN T u k) : LN S (u.map f) k := by
  have wu := h.wd hu
  obtain ⟨j, hj, _⟩ := LN.has (T := S) wu
  have a := h.le hT hS hu hk hj
  have b := h.symm.le hS hT wu hj (by rw [h.back hu]; exact hk)
  have : j = k := by omega
  rw [← this]
  exact hj
theorem neg_down {w : List Int} (hT : Tab T) (hw : Wd T.length w) {a : Int} (ha : 1 ≤ a ∧ a ≤ T.length) : (row T w).getD (ix a) 0 < 0 ↔ ∃ j, LN T w (j + 1) ∧ LN T (w ++ [a]) j := by
  obtain ⟨k, hk, _⟩ := LN.has (T := T) hw
  constructor
  · intro c
    obtain ⟨j, e, hj, _, _⟩ := LN.step hT hw hk (fall_at52 ha c)
    exact ⟨j, e ▸ hk, hj⟩
  · rintro ⟨j, h1, h2⟩
    obtain ⟨i, hi, rfl⟩ : ∃ i : Nat, i < T.length ∧ (i : Int) + 1 = a := ⟨(a - 1).toNat, by omega, by omega⟩
    rw [ix_succ]
    have nz := row_nz hT hw hi
    refine Classical.byContradiction fun c => ?_
    have up := TT.Ln.up (car_of hT) hi (lets_of hw) h1 (by rw [← row_hv hw hi]; omega)
    have e3 : (w ++ [(i : Int) + 1]).map ix = w.map ix ++ [i] := by rw [List.map_append]; simp [ix_succ]
    rw [← e3] at up
    have := LN.uniq (T := T) up h2
    omega
theorem Iso.neg (h : Iso T S f g) (hT : Tab T) (hS : Tab S) {J w : List Int} (hJ : Wd T.length J) (hw : Wd T.length w) (hn : Neg T J w) : Neg S (J.map f) (w.map f) := fun b hb => by
  obtain ⟨a, ha, rfl⟩ := List.mem_map.mp hb
  have ab := hJ a ha
  obtain ⟨h1, h2, _⟩ := h.fw a ab.1 ab.2
  obtain ⟨j, p, q⟩ := (neg_down hT hw ab).mp (hn a ha)
  refine (neg_down hS (h.wd hw) ⟨h1, by rw [h.len]; exact h2⟩).mpr ⟨j, h.ln hT hS hw p, ?_⟩
  have := h.ln hT hS (wd_app hw (fun c hc => by rw [List.mem_singleton.mp hc]; exact ab)) q
  rw [List.map_append] at this
  exact this
theorem Iso.lg (h : Iso T S f g) (hT : Tab T) (hS : Tab S) {c d z : List Int} (hc : Wd T.length c) (hd : Wd S.length d) (cd : ∀ b, b ∈ d ↔ b ∈ c.map f) (hz : lgF T c 61 (one T) [] = some z) : ∃ y, lgF S d 61 (one S) [] = some y ∧ Ov d y ∧ Sh S y ∧ Neg S d y ∧ y.length = z.length := by
  obtain ⟨g1, g2, g3, g4⟩ := lg_some hT hc 61 (u := []) (fun a h => nomatch h) sh_nil hz
  have wz := ov_wd hc g1
  have n := h.neg hT hS hc wz g3
  have l := h.ln hT hS wz g2
  exact lg_len hS hd (w := z.map f) (fun b hb => (cd b).mpr (by
    obtain ⟨a, ha, rfl⟩ := List.mem_map.mp hb
    exact List.mem_map.mpr ⟨a, g1 a ha, rfl⟩)) (fun b hb => n b ((cd b).mp hb)) l (by
    have : z.length < 0 + 61 := g4
    omega)
end
def fO (o : List Nat) (a : Int) : Int := ((o.getD (ix a) 0 : Nat) : Int) + 1
def gO (o : List Nat) (b : Int) : Int := ((o.idxOf (ix b) : Nat) : Int) + 1
theorem shf_iso {M : Mat} {o : List Nat} (ho : o.Perm (List.range M.length)) : Iso (shf M o) M (fO o) (gO o) := by
  have ol : o.length = M.length := by rw [ho.length_eq, List.length_range]
  have om : ∀ i, i < o.length → o.getD i 0 < M.length := fun i hi => List.mem_range.mp (ho.subset (List.mem_of_getElem? (getD_get (d := 0) hi)))
  have nd : o.Nodup := ho.nodup_iff.mpr List.nodup_range
  have sl : (shf M o).length = M.length := by rw [shf_len, ol]
  have ix1 : ∀ j : Nat, ix (((j : Nat) : Int) + 1) = j := fun j => ix_succ j
  refine ⟨sl.symm, fun a h1 h2 => ?_, fun b h1 h2 => ?_, fun a b h1 h2 h3 h4 => ?_⟩
  · rw [sl] at h2 ⊢
    have hi : ix a < o.length := by unfold ix; omega
    have := om _ hi
    refine ⟨by unfold fO; omega, by unfold fO; omega, ?_⟩
    unfold gO fO
    rw [ix1, List.getD_eq_getElem?_getD, List.getElem?_eq_getElem hi]
    show ((o.idxOf o[ix a] : Nat) : Int) + 1 = a
    rw [nd.idxOf_getElem]
    unfold ix
    omega
  · rw [sl] at h2 ⊢
    have hb : ix b ∈ o := ho.symm.subset (List.mem_range.mpr (by unfold ix; omega))
    have hi := List.idxOf_lt_length_of_mem hb
    refine ⟨by unfold gO; omega, by unfold gO; omega, ?_⟩
    unfold gO fO
    rw [ix1, List.getD_eq_getElem?_getD, List.getElem?_eq_getElem hi]
    show ((o[o.idxOf (ix b)] : Nat) : Int) + 1 = b
    rw [List.getElem_idxOf]
    unfold ix
    omega
  · rw [sl] at h2 h4
    unfold fO
    rw [ix1, ix1]
    exact (shf_at (by unfold ix; omega) (by unfold ix; omega)).symm
end BW
set_option autoImplicit false
set_option maxHeartbeats 1000000
namespace BW
open PySem L2 DL
theorem wd_ltrs (n : Nat) : Wd n (ltrs n) := fun a ha => ltrs_mem.mp ha
theorem len_ltrs (n : Nat) : (ltrs n).length = n := by unfold ltrs; rw [List.length_map, List.length_range]
def sp_is_finite (BC : Addr) : DSp := fun ds k R => ∃ T, ds = [bnd BC T] ∧ Tab T ∧ R (.bl (lgF T (ltrs T.length) 61 (one T) []).isSome) k
abbrev t_is_finite (BC : Addr) : DS := (dRet (dOp (oNot oIs) (dCall (sp_longest_within BC) (dCons (dVar 0) (dCons (dCall (sp_all_letters BC) (dCons (dVar 0) dNil)) dNil))) (dC .non)))
theorem r_is_finite (BC : Addr) (X : List Addr) (ds : List D) (k : Nat) (R : D → Nat → Prop) (h : sp_is_finite BC ds k R) : t_is_finite BC (En R) (St0 false 1 ds X k) := by
  obtain ⟨T, rfl, ht, h⟩ := h
  have hT := ht.hi
  intro X'
  refine ⟨_, rfl, _, rfl, T, rfl, ht, T, ltrs T.length, rfl, ht, wd_ltrs _, by rw [len_ltrs]; omega, ?_⟩
  unfold lgD
  cases e : lgF T (ltrs T.length) 61 (one T) [] with
  | none => rw [e] at h; exact h
  | some u => rw [e] at h; exact h
theorem lg_ok {T : Mat} (ht : Tab T) {c u : List Int} (hc : Wd T.length c) (h : lgF T c 61 (one T) [] = some u) : Ov c u ∧ Sh T u ∧ Neg T c u ∧ u.length ≤ 60 := by
  obtain ⟨g1, g2, g3, g4⟩ := lg_some ht hc 61 (u := []) (fun a h => nomatch h) sh_nil h
  refine ⟨g1, g2, g3, ?_⟩
  have g4 : u.length < 0 + 61 := g4
  omega
end BW
set_option autoImplicit false
set_option maxHeartbeats 1000000
namespace BW
open PySem L2 DL
def lgB (M : Mat) (l : Int) : Bool := match lgF M (ltrs M.length) 61 (one M) [] with
  | some u => decide ((u.length : Int) = l)
  | none => false
theorem fl_lg : ∀ a ∈ FL, ∀ b ∈ FL, 1 ≤ a.1.length → a.1.length + b.1.length ≤ 6 → lgB (prodM a.1 b.1) (a.2.2 + b.2.2) = true := by decide +kernel
theorem fl_le : ∀ a ∈ FL, ∀ b ∈ FL, a.2.2 + b.2.2 ≤ 24 := by decide +kernel
theorem iso_ltrs {T S : Mat} {f g : Int → Int} (h : Iso T S f g) (b : Int) : b ∈ ltrs S.length ↔ b ∈ (ltrs T.length).map f := by
  rw [ltrs_mem, List.mem_map]
  constructor
  · rintro ⟨h1, h2⟩
    rw [h.len] at h2
    obtain ⟨g1, g2, g3⟩ := h.gw b h1 h2
    exact ⟨g b, ltrs_mem.mpr ⟨g1, g2⟩, g3⟩
  · rintro ⟨a, ha, rfl⟩
    obtain ⟨a1, a2⟩ := ltrs_mem.mp ha
    obtain ⟨f1, f2, _⟩ := h.fw a a1 a2
    rw [h.len]
    exact ⟨f1, f2⟩
theorem FinT.lg {most : Nat} {T : Mat} {w l : Int} (h : FinT most T w l) (hm : most ≤ 6) : ∃ u, lgF T (ltrs T.length) 61 (one T) [] = some u ∧ (u.length : Int) = l ∧ u.length ≤ 24 := by
  have ht := h.tab hm
  obtain ⟨a, b, o, ha, hb, h1, h2, ho, rfl, _, rfl⟩ := h.h
  have q := fl_lg a ha b hb h1 (by omega)
  have q2 := fl_le a ha b hb
  have hM := tabB_ok (prod_tabs a ha b hb h1 (by omega))
  have iso : Iso (shf (prodM a.1 b.1) o) (prodM a.1 b.1) (fO o) (gO o) := shf_iso (by rw [prod_len]; exact ho)
  unfold lgB at q
  cases e : lgF (prodM a.1 b.1) (ltrs (prodM a.1 b.1).length) 61 (one (prodM a.1 b.1)) [] with
  | none => rw [e] at q; cases q
  | some z =>
    rw [e] at q
    have q : (z.length : Int) = a.2.2 + b.2.2 := of_decide_eq_true q
    obtain ⟨y, y1, _, _, _, y5⟩ := iso.symm.lg hM ht (wd_ltrs _) (wd_ltrs _) (iso_ltrs iso.symm) e
    exact ⟨y, y1, by rw [y5]; exact q, by omega⟩
structure Lgst (T : Mat) (z : List Int) : Prop where
  wd : Wd T.length z
  sh : Sh T z
  neg : Neg T (ltrs T.length) z
  ll : lw T z = z
  le : z.length ≤ 60
theorem lgst_of {T : Mat} (ht : Tab T) {u : List Int} (h : lgF T (ltrs T.length) 61 (one T) [] = some u) : Lgst T (lw T u) ∧ (lw T u).length = u.length := by
  obtain ⟨g1, g2, g3, g4⟩ := lg_ok ht (wd_ltrs _) h
  have wu := ov_wd (wd_ltrs _) g1
  obtain ⟨e1, e2, e3, e4⟩ := lw_row2 ht wu g4
  refine ⟨⟨e2, e4, fun a ha => by rw [e1]; exact g3 a ha, lw_cong ht e2 wu e1, by omega⟩, ?_⟩
  exact (e4.cong e2 wu e1).uniq g2
section
variable {T : Mat} {z w : List Int}
theorem ov_ltrs (hw : Wd T.length w) : Ov (ltrs T.length) w := fun a ha => ltrs_mem.mpr (hw a ha)
theorem Lgst.on (ht : Tab T) (h : Lgst T z) (hw : Wd T.length w) {k : Nat} (hk : LN T w k) : LN T (z ++ w) (z.length - k) ∧ k ≤ z.length := lon2 ht (wd_ltrs _) h.wd h.neg h.sh (ov_ltrs hw) hk
theorem Lgst.rev (ht : Tab T) (h : Lgst T z) : row T z.reverse = row T z := by
  have q := (h.on ht h.wd h.sh).1
  rw [Nat.sub_self] at q
  have e := ln_zero ht (wd_app h.wd h.wd) q
  have e2 := row_pre ht (z := z.reverse) (wd_rev h.wd) (wd_app h.wd h.wd) (fun a h => nomatch h : Wd T.length []) e
  rw [List.append_nil] at e2
  have r := rev_row ht h.wd
  have := row_app (z := z) r
  rw [List.append_assoc] at this
  exact e2.symm.trans this
end
end BW
set_option autoImplicit false
set_option maxHeartbeats 1000000
namespace BW
open PySem L2 DL
open TT (sm sm_congr sm_add sm_mul sm_zero sm_one)
abbrev Ser := Nat → Int
theorem sm_succ (f : Nat → Int) (n : Nat) : sm f (n + 1) = sm f n + f n := rfl
theorem sm_shift (f : Nat → Int) : ∀ n, sm f (n + 1) = f 0 + sm (fun i => f (i + 1)) n
  | 0 => by rw [sm_succ]; show 0 + f 0 = f 0 + 0; omega
  | n + 1 => by rw [sm_succ, sm_shift f n, sm_succ]; omega
theorem sm_rev (f : Nat → Int) : ∀ n, sm f n = sm (fun i => f (n - 1 - i)) n
  | 0 => rfl
  | n + 1 => by
    rw [sm_shift (fun i => f (n + 1 - 1 - i)) n, sm_succ, sm_rev f n]
    have : sm (fun i => f (n - 1 - i)) n = sm (fun i => f (n + 1 - 1 - (i + 1))) n := sm_congr fun j hj => by congr 1; omega
    rw [this]
    show _ + f n = f (n + 1 - 1 - 0) + _
    rw [show n + 1 - 1 - 0 = n by omega]
    omega
def cv (f g : Ser) : Ser := fun k => sm (fun i => f i * g (k - i)) (k + 1)
theorem cv_comm (f g : Ser) : cv f g = cv g f := by
  funext k
  unfold cv
  rw [sm_rev]
  refine sm_congr fun j hj => ?_
  try dsimp only
  rw [show k - (k + 1 - 1 - j) = j by omega, show k + 1 - 1 - j = k - j by omega, Int.mul_comm]
theorem sm_tri (F : Nat → Nat → Int) : ∀ n, sm (fun i => sm (fun j => F j (i - j)) (i + 1)) n = sm (fun j => sm (fun l => F j l) (n - j)) n
  | 0 => rfl
  | n + 1 => by
    rw [sm_succ, sm_tri F n, sm_succ (fun j => sm (fun l => F j l) (n + 1 - j)) n]
    have e : sm (fun j => sm (fun l => F j l) (n + 1 - j)) n = sm (fun j => sm (fun l => F j l) (n - j) + F j (n - j)) n := sm_congr fun j hj => by
      rw [show n + 1 - j = (n - j) + 1 by omega, sm_succ]
    rw [e, sm_add (f := fun j => sm (fun l => F j l) (n - j)) (g := fun j => F j (n - j)), sm_succ (fun j => F j (n - j)) n]
    rw [show n + 1 - n = 0 + 1 by omega, sm_succ]
    show _ + (_ + F n (n - n)) = _ + _ + (0 + F n 0)
    rw [Nat.sub_self]
    omega
theorem sm_mulR (f : Nat → Int) (c : Int) (n : Nat) : sm (fun j => f j * c) n = sm f n * c := by
  rw [Int.mul_comm, ← sm_mul]
  exact sm_congr fun j _ => Int.mul_comm _ _
theorem cv_assoc (f g h : Ser) : cv (cv f g) h = cv f (cv g h) := by
  funext k
  unfold cv
  have e1 : sm (fun i => sm (fun j => f j * g (i - j)) (i + 1) * h (k - i)) (k + 1) = sm (fun i => sm (fun j => (fun a b => f a * g b * h (k - a - b)) j (i - j)) (i + 1)) (k + 1) := sm_congr fun i hi => by
    rw [← sm_mulR]
    refine sm_congr fun j hj => ?_
    try dsimp only
    rw [show k - j - (i - j) = k - i by omega]
  rw [e1, sm_tri (fun a b => f a * g b * h (k - a - b)) (k + 1)]
  refine sm_congr fun j hj => ?_
  try dsimp only
  rw [← sm_mul, show k + 1 - j = k - j + 1 by omega]
  refine sm_congr fun l hl => ?_
  try dsimp only
  rw [Int.mul_assoc, show k - j - l = k - j - l from rfl]
def e0 : Ser := fun k => if k = 0 then 1 else 0
theorem cv_e0 (f : Ser) : cv e0 f = f := by
  funext k
  unfold cv
  rw [sm_shift]
  have : sm (fun i => e0 (i + 1) * f (k - (i + 1))) k = 0 := sm_zero fun j _ => by unfold e0; rw [if_neg (by omega), Int.zero_mul]
  rw [this]
  unfold e0
  rw [if_pos rfl, Int.one_mul]
  show f k + 0 = f k
  omega
def sft (N : Nat) (f : Ser) : Ser := fun k => if N ≤ k then f (k - N) else 0
theorem cv_sft (N : Nat) (f g : Ser) : cv (sft N f) g = sft N (cv f g) := by
  funext k
  unfold cv sft
  by_cases h : N ≤ k
  · rw [if_pos h]
    obtain ⟨d, rfl⟩ : ∃ d, k = N + d := ⟨k - N, by omega⟩
    clear h
    have : ∀ N, sm (fun i => (if N ≤ i then f (i - N) else 0) * g (N + d - i)) (N + d + 1) = sm (fun i => f i * g (d - i)) (d + 1) := by
      intro N
      induction N with
      | zero =>
        rw [Nat.zero_add]
        refine sm_congr fun i hi => ?_
        try dsimp only
        rw [if_pos (Nat.zero_le _), Nat.sub_zero]
      | succ N ih =>
        rw [show N + 1 + d + 1 = (N + d + 1) + 1 by omega, sm_shift]
        rw [if_neg (by omega), Int.zero_mul, Int.zero_add, ← ih]
        refine sm_congr fun i hi => ?_
        try dsimp only
        rw [show N + 1 + d - (i + 1) = N + d - i by omega, show i + 1 - (N + 1) = i - N by omega]
        by_cases q : N ≤ i
        · rw [if_pos q, if_pos (by omega)]
        · rw [if_neg q, if_neg (by omega)]
    rw [this, show N + d - N = d by omega]
  · rw [if_neg h]
    refine sm_zero fun j hj => ?_
    try dsimp only
    rw [if_neg (by omega), Int.zero_mul]
theorem cv_congr {f f' g g' : Ser} {m k : Nat} (hk : k ≤ m) (h1 : ∀ i, i ≤ m → f i = f' i) (h2 : ∀ i, i ≤ m → g i = g' i) : cv f g k = cv f' g' k := sm_congr fun i hi => by
  try dsimp only
  rw [h1 i (by omega), h2 (k - i) (by omega)]
section
variable {T : Mat}
structure Lv (T : Mat) (c : List Int) (k : Nat) (ws : List (List Int)) : Prop where
  on : ∀ w ∈ ws, Ov c w ∧ Sh T w ∧ w.length = k
  nd : (ws.map (row T)).Nodup
  all : ∀ w, Ov c w → LN T w k → row T w ∈ ws.map (row T)
theorem nodup_len {α : Type} [DecidableEq α] : ∀ {l z : List α}, l.Nodup → (∀ x ∈ l, x ∈ z) → l.length ≤ z.length
  | [], _, _, _ => Nat.zero_le _
  | a :: l, z, nd, h => by
    obtain ⟨n1, n2⟩ := List.nodup_cons.mp nd
    have ha := h a List.mem_cons_self
    have := nodup_len (l := l) (z := z.erase a) n2 fun x hx => (List.mem_erase_of_ne fun e => n1 (by rw [← e]; exact hx)).mpr (h x (List.mem_cons_of_mem _ hx))
    rw [List.length_erase_of_mem ha] at this
    have := List.length_pos_of_mem ha
    show l.length + 1 ≤ _
    omega
theorem nodup_eq {α : Type} [DecidableEq α] {l z : List α} (n1 : l.Nodup) (n2 : z.Nodup) (h : ∀ x, x ∈ l ↔ x ∈ z) : l.length = z.length :=
  Nat.le_antisymm (nodup_len n1 fun x hx => (h x).mp hx) (nodup_len n2 fun x hx => (h x).mpr hx)
def upW (T : Mat) (c : List Int) : List (List Int) → List (List Int) → List (List Int)
  | [], acc => acc
  | u :: us, acc => if row T u ∈ acc.map (row T) then upW T c us acc else upW T c us (acc ++ [u])
theorem upW_ok (c : List Int) : ∀ {us acc : List (List Int)}, (acc.map (row T)).Nodup → ((upW T c us acc).map (row T)).Nodup ∧ (∀ w ∈ upW T c us acc, w ∈ us ∨ w ∈ acc) ∧ (∀ u ∈ us, row T u ∈ (upW T c us acc).map (row T)) ∧ ∀ u ∈ acc, u ∈ upW T c us acc
  | [], acc, nd => ⟨nd, fun w h => .inr h, fun u h => (nomatch h), fun u h => h⟩
  | u :: us, acc, nd => by
    unfold upW
    by_cases q : row T u ∈ acc.map (row T)
    · rw [if_pos q]
      obtain ⟨h1, h2, h3, h4⟩ := upW_ok c (us := us) nd
      refine ⟨h1, fun w hw => (h2 w hw).imp (List.mem_cons_of_mem _) id, fun v hv => ?_, h4⟩
      rcases List.mem_cons.mp hv with rfl | hv
      · obtain ⟨x, hx, e⟩ := List.mem_map.mp q
        exact List.mem_map.mpr ⟨x, h4 x hx, e⟩
      · exact h3 v hv
    · rw [if_neg q]
      have nd2 : ((acc ++ [u]).map (row T)).Nodup := by
        rw [List.map_append]
        exact List.nodup_append.mpr ⟨nd, List.nodup_cons.mpr ⟨by simp, List.nodup_nil⟩, fun x hx y hy e => q (by rw [← List.mem_singleton.mp hy, ← e]; exact hx)⟩
      obtain ⟨h1, h2, h3, h4⟩ := upW_ok c (us := us) nd2
      refine ⟨h1, fun w hw => ?_, fun v hv => ?_, fun v hv => h4 v (List.mem_append_left _ hv)⟩
      · rcases h2 w hw with h | h
        · exact .inl (List.mem_cons_of_mem _ h)
        · rcases List.mem_append.mp h with h | h
          · exact .inr h
          · exact .inl (by rw [List.mem_singleton.mp h]; exact List.mem_cons_self)
      · rcases List.mem_cons.mp hv with rfl | hv
        · exact List.mem_map.mpr ⟨v, h4 v (List.mem_append_right _ (List.mem_singleton.mpr rfl)), rfl⟩
        · exact h3 v hv
def lvW (T : Mat) (c : List Int) : Nat → List (List Int)
  | 0 => [[]]
  | k + 1 => upW T c ((lvW T c k).flatMap fun u => (c.filter fun a => decide (0 < (row T u).getD (ix a) 0)).map fun a => u ++ [a]) []
theorem sh_add {T : Mat} (ht : Tab T) {u : List Int} {a : Int} (hu : Wd T.length u) (su : Sh T u) (ha : 1 ≤ a ∧ a ≤ T.length) (p : 0 < (row T u).getD (ix a) 0) : Sh T (u ++ [a]) := by
  obtain ⟨i, hi, rfl⟩ : ∃ i : Nat, i < T.length ∧ (i : Int) + 1 = a := ⟨(a - 1).toNat, by omega, by omega⟩
  rw [ix_succ] at p
  have up := TT.Ln.up (car_of ht) hi (lets_of hu) su (by rw [← row_hv hu hi]; exact p)
  have e3 : (u ++ [(i : Int) + 1]).map ix = u.map ix ++ [i] := by rw [List.map_append]; simp [ix_succ]
  rw [← e3] at up
  show LN T _ (List.length _)
  rw [List.length_append, List.length_singleton]
  exact up
theorem lvW_ok (ht : Tab T) {c : List Int} (hc : Wd T.length c) : ∀ k, Lv T c k (lvW T c k)
  | 0 => by
    refine ⟨fun w hw => ?_, List.nodup_cons.mpr ⟨by simp, List.nodup_nil⟩, fun w ho h => ?_⟩
    · rw [List.mem_singleton.mp hw]; exact ⟨fun a h => (nomatch h), sh_nil, rfl⟩
    · rw [ln_zero ht (ov_wd hc ho) h]
      exact List.mem_singleton.mpr rfl
  | k + 1 => by
    have ih := lvW_ok ht hc k
    obtain ⟨h1, h2, h3, _⟩ := upW_ok (T := T) c (us := (lvW T c k).flatMap fun u => (c.filter fun a => decide (0 < (row T u).getD (ix a) 0)).map fun a => u ++ [a]) (acc := []) List.nodup_nil
    refine ⟨fun w hw => ?_, h1, fun w ho h => ?_⟩
    · have hw := (h2 w hw).resolve_right (by simp)
      obtain ⟨u, hu, hw⟩ := List.mem_flatMap.mp hw
      obtain ⟨a, ha, rfl⟩ := List.mem_map.mp hw
      obtain ⟨ac, ap⟩ := List.mem_filter.mp ha
      obtain ⟨o1, o2, o3⟩ := ih.on u hu
      exact ⟨fun b hb => (List.mem_append.mp hb).elim (o1 b) fun q => by rw [List.mem_singleton.mp q]; exact ac, sh_add ht (ov_wd hc o1) o2 (hc a ac) (of_decide_eq_true ap), by rw [List.length_append, o3]; rfl⟩
    · have ww := ov_wd hc ho
      obtain ⟨z, z1, z2, z3⟩ := sub_short ht _ (Nat.le_refl _) ww
      have oz := sub_ov z1 ho
      have wz := wd_sub z1 ww
      have zl : z.length = k + 1 := (z2.cong wz ww z3).uniq h
      obtain ⟨u, a, rfl⟩ : ∃ u a, z = u ++ [a] := by
        rcases List.eq_nil_or_concat z with rfl | ⟨u, a, e⟩
        · simp at zl
        · exact ⟨u, a, by rw [e, List.concat_eq_append]⟩
      rw [List.length_append, List.length_singleton] at zl
      obtain ⟨s1, p1⟩ := sh_up ht wz z2
      have ou : Ov c u := fun b hb => oz b (List.mem_append_left _ hb)
      have ac := oz a (List.mem_append_right _ (List.mem_singleton.mpr rfl))
      obtain ⟨v, hv, ev⟩ := List.mem_map.mp (ih.all u ou (by have : u.length = k := by omega
                                                             rw [← this]; exact s1))
      have := h3 (v ++ [a]) (List.mem_flatMap.mpr ⟨v, hv, List.mem_map.mpr ⟨a, List.mem_filter.mpr ⟨ac, decide_eq_true (by rw [ev]; exact p1)⟩, rfl⟩⟩)
      have e : row T (v ++ [a]) = row T w := (row_app ev).trans z3
      rwa [e] at this
def nc (T : Mat) (c : List Int) : Ser := fun k => ((lvW T c k).length : Int)
theorem Lv.len {c : List Int} {k : Nat} {ws vs : List (List Int)} (h : Lv T c k ws) (g : Lv T c k vs) : ws.length = vs.length := by
  have := nodup_eq h.nd g.nd fun r => by
    constructor
    · intro hr
      obtain ⟨w, hw, rfl⟩ := List.mem_map.mp hr
      obtain ⟨a, b, e⟩ := h.on w hw
      exact g.all w a (by rw [← e]; exact b)
    · intro hr
      obtain ⟨w, hw, rfl⟩ := List.mem_map.mp hr
      obtain ⟨a, b, e⟩ := g.on w hw
      exact h.all w a (by rw [← e]; exact b)
  rwa [List.length_map, List.length_map] at this
theorem nc_zero (c : List Int) : nc T c 0 = 1 := rfl
end
end BW
set_option autoImplicit false
set_option maxHeartbeats 1000000
namespace BW
open PySem L2 DL
open TT (sm sm_congr sm_add sm_mul sm_zero sm_one)
theorem pg_posX {n : Nat} {r : List Int} {x : TT.Vec} (h0 : ∀ j, j < n → 0 ≤ x j) (h1 : 1 ≤ TT.sm x n) (hr : ∀ j, j < n → x j ≠ 0 → 0 < r.getD j 0) : 0 < pg n r x := by
  have e : TT.sm (fun j => r.getD j 0 * x j + (-1) * x j) n = pg n r x + (-1) * TT.sm x n := by
    rw [TT.sm_add (f := fun j => r.getD j 0 * x j) (g := fun j => (-1) * x j), TT.sm_mul (f := x)]
    rfl
  have nn : 0 ≤ TT.sm (fun j => r.getD j 0 * x j + (-1) * x j) n := TT.sm_nn fun j hj => by
    by_cases z : x j = 0
    · rw [z]; omega
    · have a := hr j hj z
      have b : 1 ≤ x j := by have := h0 j hj; omega
      have c : 1 * x j ≤ r.getD j 0 * x j := Int.mul_le_mul_of_nonneg_right (by omega) (by omega)
      omega
  rw [e] at nn
  omega
def Fnt (T : Mat) (J w : List Int) : Prop := ∀ a ∈ J, 0 < (row T w).getD (ix a) 0
section
variable {T : Mat} {J c w v f r : List Int}
theorem up_pos (ht : Tab T) (hJ : Wd T.length J) (hn : Fnt T J w) (hv : Ov J v) {a : Int} (ha : a ∈ J) (hp : 0 < (row T v).getD (ix a) 0) : 0 < (row T (w ++ v)).getD (ix a) 0 := by
  have wv := ov_wd hJ hv
  have hi : ix a < T.length := ix_lt (hJ a ha)
  have p := act_pos ht wv hi hp
  rw [row_two w wv hi]
  refine pg_posX (fun j _ => p.nn j) p.ht fun j hj ne => ?_
  have s : supJ (fun j => ∃ b ∈ J, ix b = j) (TT.act T.length (wt T) (v.map ix) (TT.eb (ix a))) := supJ_act (fun j hj => by
    unfold TT.eb
    exact if_neg fun z => hj ⟨a, ha, z.symm⟩) fun b hb => by
    obtain ⟨c, hc, rfl⟩ := List.mem_map.mp hb
    exact ⟨c, hv c hc, rfl⟩
  obtain ⟨b, hb, rfl⟩ : ∃ b ∈ J, ix b = j := Classical.byContradiction fun z => ne (s j z)
  exact hn b hb
theorem fadd (ht : Tab T) (hJ : Wd T.length J) (hf : Wd T.length f) (hn : Fnt T J f) {j : Nat} (hj : LN T f j) : ∀ (n : Nat) {r : List Int}, r.length = n → Ov J r → Sh T r → LN T (f ++ r) (j + n)
  | 0, r, hr, _, _ => by
    rw [List.length_eq_zero_iff.mp hr, List.append_nil]
    exact hj
  | n + 1, r, hr, ho, sh => by
    obtain ⟨u, a, rfl⟩ : ∃ u a, r = u ++ [a] := by
      rcases List.eq_nil_or_concat r with rfl | ⟨u, a, e⟩
      · simp at hr
      · exact ⟨u, a, by rw [e, List.concat_eq_append]⟩
    rw [List.length_append, List.length_singleton] at hr
    have wr := ov_wd hJ ho
    have ou : Ov J u := fun b hb => ho b (List.mem_append_left _ hb)
    have aJ := ho a (List.mem_append_right _ (List.mem_singleton.mpr rfl))
    obtain ⟨s1, p1⟩ := sh_up ht wr sh
    have ih := fadd ht hJ hf hn hj n (by omega) ou s1
    have q := up_pos ht hJ hn ou aJ p1
    have ab := hJ a aJ
    obtain ⟨i, hi, rfl⟩ : ∃ i : Nat, i < T.length ∧ (i : Int) + 1 = a := ⟨(a - 1).toNat, by omega, by omega⟩
    rw [ix_succ] at q
    have wfu := wd_app hf (ov_wd hJ ou)
    have up := TT.Ln.up (car_of ht) hi (lets_of wfu) ih (by rw [← row_hv wfu hi]; exact q)
    have e3 : (f ++ u ++ [(i : Int) + 1]).map ix = (f ++ u).map ix ++ [i] := by rw [List.map_append]; simp [ix_succ]
    rw [← e3, List.append_assoc] at up
    exact up
theorem fadd2 (ht : Tab T) (hJ : Wd T.length J) (hf : Wd T.length f) (hn : Fnt T J f) {j m : Nat} (hj : LN T f j) (ho : Ov J r) (hm : LN T r m) : LN T (f ++ r) (j + m) := by
  have wr := ov_wd hJ ho
  obtain ⟨z, z1, z2, z3⟩ := sub_short ht _ (Nat.le_refl _) wr
  have wz := wd_sub z1 wr
  have e : z.length = m := (z2.cong wz wr z3).uniq hm
  exact (fadd ht hJ hf hn hj m e (sub_ov z1 ho) z2).cong (wd_app hf wz) (wd_app hf wr) (row_pre ht hf wz wr z3)
theorem part_ex (ht : Tab T) (hc : Wd T.length c) (hJc : ∀ a ∈ J, a ∈ c) : ∀ (k : Nat) {w : List Int}, Ov c w → LN T w k → ∃ f r j, Ov c f ∧ Ov J r ∧ LN T f j ∧ k = j + r.length ∧ row T w = row T (f ++ r) ∧ Fnt T J f := by
  intro k
  induction k with
  | zero =>
    intro w ho hk
    have ww := ov_wd hc ho
    refine ⟨w, [], 0, ho, fun a h => (nomatch h), hk, rfl, by rw [List.append_nil], fun a ha => ?_⟩
    have ab := hc a (hJc a ha)
    obtain ⟨i, hi, rfl⟩ : ∃ i : Nat, i < T.length ∧ (i : Int) + 1 = a := ⟨(a - 1).toNat, by omega, by omega⟩
    rw [ix_succ, LN.one_of ht ww hk hi]
    decide
  | succ k ih =>
    intro w ho hk
    have ww := ov_wd hc ho
    by_cases q : ∃ a ∈ J, (row T w).getD (ix a) 0 < 0
    · obtain ⟨a, ha, hn⟩ := q
      have ab := hc a (hJc a ha)
      obtain ⟨i, hi, rfl⟩ : ∃ i : Nat, i < T.length ∧ (i : Int) + 1 = a := ⟨(a - 1).toNat, by omega, by omega⟩
      obtain ⟨j, e, hj, wa, _⟩ := LN.step ht ww hk (fall_at52 ab hn)
      obtain rfl : k = j := by omega
      obtain ⟨f, r, j2, h1, h2, h3, h4, h5, h6⟩ := ih (fun b hb => (List.mem_append.mp hb).elim (ho b) fun q => by rw [List.mem_singleton.mp q]; exact hJc _ ha) hj
      refine ⟨f, r ++ [(i : Int) + 1], j2, h1, fun b hb => (List.mem_append.mp hb).elim (h2 b) fun q => by rw [List.mem_singleton.mp q]; exact ha, h3, by rw [List.length_append, List.length_singleton]; omega, ?_, h6⟩
      have := row_app (z := [(i : Int) + 1]) h5
      rw [row_undo ht hi, List.append_assoc] at this
      exact this
    · refine ⟨w, [], k + 1, ho, fun a h => (nomatch h), hk, rfl, by rw [List.append_nil], fun a ha => ?_⟩
      have ab := hc a (hJc a ha)
      have nz := row_nz ht ww (ix_lt ab)
      have : ¬ (row T w).getD (ix a) 0 < 0 := fun z => q ⟨a, ha, z⟩
      omega
theorem part_one (ht : Tab T) (hJ : Wd T.length J) {f' r' : List Int} (hf : Wd T.length f) (hf' : Wd T.length f') (n1 : Fnt T J f) (n2 : Fnt T J f') (o1 : Ov J r) (o2 : Ov J r') (e : row T (f ++ r) = row T (f' ++ r')) : row T f = row T f' ∧ row T r = row T r' := by
  have wr := ov_wd hJ o1
  have wr' := ov_wd hJ o2
  have ov : Ov J (r ++ r'.reverse) := fun a ha => (List.mem_append.mp ha).elim (o1 a) fun q => o2 a (List.mem_reverse.mp q)
  have ov' : Ov J (r' ++ r.reverse) := fun a ha => (List.mem_append.mp ha).elim (o2 a) fun q => o1 a (List.mem_reverse.mp q)
  have wv := ov_wd hJ ov
  have wv' := ov_wd hJ ov'
  have e1 : row T (f ++ (r ++ r'.reverse)) = row T f' := by
    rw [← List.append_assoc]
    exact row_back ht wr' e
  have e2 : row T (f' ++ (r' ++ r.reverse)) = row T f := by
    rw [← List.append_assoc]
    exact row_back ht wr e.symm
  obtain ⟨j, hj, _⟩ := LN.has (T := T) hf
  obtain ⟨j', hj', _⟩ := LN.has (T := T) hf'
  obtain ⟨m, hm, _⟩ := LN.has (T := T) wv
  obtain ⟨m', hm', _⟩ := LN.has (T := T) wv'
  have a := ((fadd2 ht hJ hf n1 hj ov hm).cong (wd_app hf wv) hf' e1).uniq hj'
  have b := ((fadd2 ht hJ hf' n2 hj' ov' hm').cong (wd_app hf' wv') hf e2).uniq hj
  have m0 : m = 0 := by omega
  subst m0
  have z := ln_zero ht wv hm
  have z0 : row T (r ++ r'.reverse) = row T [] := z
  refine ⟨?_, ?_⟩
  · have := row_pre ht (z := f) hf wv (fun a h => nomatch h : Wd T.length []) z0
    rw [List.append_nil] at this
    exact this.symm.trans e1
  · have := row_back ht (l := r'.reverse) (u := r) (z := []) (wd_rev wr') z0.symm
    rw [List.reverse_reverse] at this
    exact this.symm
abbrev fntB (T : Mat) (J w : List Int) : Bool := J.all fun a => decide (0 < (row T w).getD (ix a) 0)
theorem fntB_iff : fntB T J w = true ↔ Fnt T J w := by
  unfold fntB
  rw [List.all_eq_true]
  exact ⟨fun h a ha => of_decide_eq_true (h a ha), fun h a ha => decide_eq_true (h a ha)⟩
abbrev frW (T : Mat) (c J : List Int) (k : Nat) : List (List Int) := (lvW T c k).filter (fntB T J)
def nf (T : Mat) (c J : List Int) : Ser := fun k => ((frW T c J k).length : Int)
theorem sum_range (g : Nat → Nat) : ∀ n, (((List.range n).map g).sum : Int) = sm (fun i => (g i : Int)) n
  | 0 => rfl
  | n + 1 => by
    rw [List.range_succ, List.map_append, List.sum_append, sm_succ, ← sum_range g n]
    simp
theorem rows_ne {ws : List (List Int)} (h : (ws.map (row T)).Nodup) : ws.Pairwise fun a b => row T a ≠ row T b := List.pairwise_map.mp h
theorem lv_prod (ht : Tab T) (hc : Wd T.length c) (hJc : ∀ a ∈ J, a ∈ c) (k : Nat) : Lv T c k ((List.range (k + 1)).flatMap fun i => (frW T c J i).flatMap fun f => (lvW T J (k - i)).map fun r => f ++ r) := by
  have hJ : Wd T.length J := fun a ha => hc a (hJc a ha)
  have fo : ∀ {i f}, f ∈ frW T c J i → Ov c f ∧ Sh T f ∧ f.length = i ∧ Fnt T J f := fun {i f} hf => by
    obtain ⟨h1, h2⟩ := List.mem_filter.mp hf
    obtain ⟨a, b, e⟩ := (lvW_ok ht hc i).on f h1
    exact ⟨a, b, e, fntB_iff.mp h2⟩
  refine ⟨fun w hw => ?_, ?_, fun w ho hk => ?_⟩
  · obtain ⟨i, hi, hw⟩ := List.mem_flatMap.mp hw
    obtain ⟨f, hf, hw⟩ := List.mem_flatMap.mp hw
    obtain ⟨r, hr, rfl⟩ := List.mem_map.mp hw
    have hi := List.mem_range.mp hi
    obtain ⟨f1, f2, f3, f4⟩ := fo hf
    obtain ⟨r1, r2, r3⟩ := (lvW_ok ht hJ (k - i)).on r hr
    have := fadd ht hJ (ov_wd hc f1) f4 f2 _ rfl r1 r2
    refine ⟨fun b hb => (List.mem_append.mp hb).elim (f1 b) fun q => hJc b (r1 b q), ?_, by rw [List.length_append]; omega⟩
    show LN T _ (List.length _)
    rw [List.length_append]
    exact this
  · refine List.pairwise_map.mpr (List.pairwise_flatMap.mpr ⟨fun i hi => List.pairwise_flatMap.mpr ⟨fun f hf => List.pairwise_map.mpr ?_, ?_⟩, ?_⟩)
    · obtain ⟨f1, f2, f3, f4⟩ := fo hf
      refine (rows_ne (lvW_ok ht hJ (k - i)).nd).imp_of_mem fun {a b} ha hb ne e => ne ?_
      exact (part_one ht hJ (ov_wd hc f1) (ov_wd hc f1) f4 f4 ((lvW_ok ht hJ (k - i)).on a ha).1 ((lvW_ok ht hJ (k - i)).on b hb).1 e).2
    · refine ((rows_ne (lvW_ok ht hc i).nd).filter _).imp_of_mem fun {a b} ha hb ne x hx y hy e => ne ?_
      obtain ⟨f1, f2, f3, f4⟩ := fo ha
      obtain ⟨g1, g2, g3, g4⟩ := fo hb
      obtain ⟨r, hr, rfl⟩ := List.mem_map.mp hx
      obtain ⟨q, hq, rfl⟩ := List.mem_map.mp hy
      exact (part_one ht hJ (ov_wd hc f1) (ov_wd hc g1) f4 g4 ((lvW_ok ht hJ (k - i)).on r hr).1 ((lvW_ok ht hJ (k - i)).on q hq).1 e).1
    · refine List.nodup_range.imp_of_mem fun {i j} hi hj ne x hx y hy e => ne ?_
      obtain ⟨f, hf, hx⟩ := List.mem_flatMap.mp hx
      obtain ⟨g, hg, hy⟩ := List.mem_flatMap.mp hy
      obtain ⟨r, hr, rfl⟩ := List.mem_map.mp hx
      obtain ⟨q, hq, rfl⟩ := List.mem_map.mp hy
      obtain ⟨f1, f2, f3, f4⟩ := fo hf
      obtain ⟨g1, g2, g3, g4⟩ := fo hg
      have e2 := (part_one ht hJ (ov_wd hc f1) (ov_wd hc g1) f4 g4 ((lvW_ok ht hJ (k - i)).on r hr).1 ((lvW_ok ht hJ (k - j)).on q hq).1 e).1
      have := (f2.cong (ov_wd hc f1) (ov_wd hc g1) e2).uniq g2
      omega
  · obtain ⟨f, r, j, h1, h2, h3, h4, h5, h6⟩ := part_ex ht hc hJc k ho hk
    have wf := ov_wd hc h1
    have wr := ov_wd hJ h2
    obtain ⟨m, hm, ml⟩ := LN.has (T := T) wr
    have ww := ov_wd hc ho
    have := ((fadd2 ht hJ wf h6 h3 h2 hm).cong (wd_app wf wr) ww h5.symm).uniq hk
    obtain ⟨f0, g1, g2⟩ := List.mem_map.mp ((lvW_ok ht hc j).all f h1 h3)
    have km : k - j = m := by omega
    have hm2 : LN T r (k - j) := by rw [km]; exact hm
    obtain ⟨r0, q1, q2⟩ := List.mem_map.mp ((lvW_ok ht hJ (k - j)).all r h2 hm2)
    have wf0 := ov_wd hc ((lvW_ok ht hc j).on f0 g1).1
    have wr0 := ov_wd hJ ((lvW_ok ht hJ (k - j)).on r0 q1).1
    refine List.mem_map.mpr ⟨f0 ++ r0, List.mem_flatMap.mpr ⟨j, List.mem_range.mpr (by omega), List.mem_flatMap.mpr ⟨f0, List.mem_filter.mpr ⟨g1, fntB_iff.mpr fun a ha => by rw [g2]; exact h6 a ha⟩, List.mem_map.mpr ⟨r0, q1, rfl⟩⟩⟩, ?_⟩
    have e1 : row T (f0 ++ r0) = row T (f ++ r0) := row_app g2
    rw [e1, h5]
    exact row_pre ht wf wr0 wr q2
theorem nc_cv (ht : Tab T) (hc : Wd T.length c) (hJc : ∀ a ∈ J, a ∈ c) : nc T c = cv (nf T c J) (nc T J) := by
  funext k
  have e := (lvW_ok ht hc k).len (lv_prod ht hc hJc k)
  show ((lvW T c k).length : Int) = _
  rw [e, List.length_flatMap]
  have e2 : ∀ i, ((frW T c J i).flatMap fun f => (lvW T J (k - i)).map fun r => f ++ r).length = (frW T c J i).length * (lvW T J (k - i)).length := fun i => by
    rw [List.length_flatMap]
    have : ∀ l : List (List Int), (l.map fun f => ((lvW T J (k - i)).map fun r => f ++ r).length).sum = l.length * (lvW T J (k - i)).length := by
      intro l
      induction l with
      | nil => simp
      | cons a l ih => rw [List.map_cons, List.sum_cons, ih, List.length_map, List.length_cons, Nat.succ_mul]; omega
    exact this _
  rw [sum_range]
  unfold cv
  refine sm_congr fun i hi => ?_
  try dsimp only
  rw [e2]
  exact Int.natCast_mul _ _
end
end BW
set_option autoImplicit false
set_option maxHeartbeats 1000000
namespace BW
open PySem L2 DL
open TT (sm sm_congr sm_add sm_mul sm_zero sm_one)
def subl : List Int → List (List Int)
  | [] => [[]]
  | a :: l => subl l ++ (subl l).map (a :: ·)
def sgn (n : Nat) : Int := if n % 2 = 1 then -1 else 1
theorem sgn_succ (n : Nat) : sgn (n + 1) = - sgn n := by
  unfold sgn
  by_cases h : n % 2 = 1
  · rw [if_pos h, if_neg (by omega)]; rfl
  · rw [if_neg h, if_pos (by omega)]
theorem sgn_sq (n : Nat) : sgn n * sgn n = 1 := by
  unfold sgn
  by_cases h : n % 2 = 1
  · rw [if_pos h]; rfl
  · rw [if_neg h]; rfl
theorem sgn_add (n m : Nat) : sgn (n + m) = sgn n * sgn m := by
  induction m with
  | zero => rw [Nat.add_zero]; show _ = _ * 1; rw [Int.mul_one]
  | succ m ih => rw [← Nat.add_assoc, sgn_succ, ih, sgn_succ, Int.mul_neg]
theorem sum_cons' (a : Int) (l : List Int) : (a :: l).sum = a + l.sum := by simp
theorem sum_app' (l m : List Int) : (l ++ m).sum = l.sum + m.sum := List.sum_append_int
theorem sum_add {α : Type} (f g : α → Int) : ∀ l : List α, (l.map fun x => f x + g x).sum = (l.map f).sum + (l.map g).sum
  | [] => rfl
  | a :: l => by
    rw [List.map_cons, List.map_cons, List.map_cons, sum_cons', sum_cons', sum_cons', sum_add f g l]
    omega
theorem sum_zero {α : Type} : ∀ l : List α, (l.map fun _ => (0 : Int)).sum = 0
  | [] => rfl
  | a :: l => by rw [List.map_cons, sum_cons', sum_zero l]; rfl
theorem sum_mul {α : Type} (c : Int) (f : α → Int) : ∀ l : List α, (l.map fun x => c * f x).sum = c * (l.map f).sum
  | [] => by show (0 : Int) = c * 0; rw [Int.mul_zero]
  | a :: l => by rw [List.map_cons, sum_cons', sum_mul c f l, List.map_cons, sum_cons', Int.mul_add]
theorem sum_swap {α β : Type} (F : α → β → Int) (m : List β) : ∀ l : List α, (l.map fun x => (m.map fun y => F x y).sum).sum = (m.map fun y => (l.map fun x => F x y).sum).sum
  | [] => (sum_zero m).symm
  | a :: l => by
    rw [List.map_cons, sum_cons', sum_swap F m l, ← sum_add (fun y => F a y) (fun y => (l.map fun x => F x y).sum) m]
    rfl
theorem sum_congr {α : Type} {f g : α → Int} {l : List α} (h : ∀ x ∈ l, f x = g x) : (l.map f).sum = (l.map g).sum := by
  rw [List.map_congr_left h]
theorem len_sum {α : Type} (p : α → Bool) : ∀ l : List α, ((l.filter p).length : Int) = (l.map fun x => if p x = true then (1 : Int) else 0).sum
  | [] => rfl
  | a :: l => by
    rw [List.map_cons, sum_cons', ← len_sum p l]
    by_cases h : p a = true
    · rw [List.filter_cons_of_pos h, if_pos h, List.length_cons]; omega
    · rw [List.filter_cons_of_neg h, if_neg h]; omega
theorem sum_perm {l m : List Int} (h : l.Perm m) : l.sum = m.sum := by
  induction h with
  | nil => rfl
  | cons a _ ih => rw [sum_cons', sum_cons', ih]
  | swap a b l => rw [sum_cons', sum_cons', sum_cons', sum_cons']; omega
  | trans _ _ a b => exact a.trans b
section
variable {T : Mat} {c : List Int}
abbrev negB (T : Mat) (J w : List Int) : Bool := J.all fun a => !decide (0 < (row T w).getD (ix a) 0)
theorem alt_one (w : List Int) : ∀ c : List Int, ((subl c).map fun J => sgn J.length * (if fntB T J w = true then (1 : Int) else 0)).sum = if negB T c w = true then 1 else 0
  | [] => rfl
  | a :: l => by
    show ((subl l ++ (subl l).map (a :: ·)).map _).sum = _
    rw [List.map_append, sum_app', alt_one w l, List.map_map]
    by_cases h : 0 < (row T w).getD (ix a) 0
    · have e1 : negB T (a :: l) w = false := by
        show ((!decide (0 < (row T w).getD (ix a) 0)) && _) = false
        rw [decide_eq_true h]; rfl
      have e2 : ((subl l).map ((fun J => sgn J.length * (if fntB T J w = true then (1 : Int) else 0)) ∘ (a :: ·))).sum = (-1) * ((subl l).map fun J => sgn J.length * (if fntB T J w = true then (1 : Int) else 0)).sum := by
        rw [← sum_mul]
        refine sum_congr fun J _ => ?_
        show sgn (J.length + 1) * (if fntB T (a :: J) w = true then (1 : Int) else 0) = _
        have e3 : fntB T (a :: J) w = fntB T J w := by
          show (decide (0 < (row T w).getD (ix a) 0) && _) = _
          rw [decide_eq_true h]; rfl
        rw [e3, sgn_succ, Int.neg_mul, Int.neg_mul, Int.one_mul]
      rw [e2, alt_one w l, e1]
      generalize (if negB T l w = true then (1 : Int) else 0) = z
      show z + (-1) * z = 0
      omega
    · have e1 : negB T (a :: l) w = negB T l w := by
        show ((!decide (0 < (row T w).getD (ix a) 0)) && _) = _
        rw [decide_eq_false h]; rfl
      have e2 : ((subl l).map ((fun J => sgn J.length * (if fntB T J w = true then (1 : Int) else 0)) ∘ (a :: ·))).sum = 0 := by
        refine Eq.trans (sum_congr (g := fun _ => (0 : Int)) fun J _ => ?_) (sum_zero (subl l))
        show sgn (J.length + 1) * (if fntB T (a :: J) w = true then (1 : Int) else 0) = 0
        have e3 : fntB T (a :: J) w = false := by
          show (decide (0 < (row T w).getD (ix a) 0) && _) = _
          rw [decide_eq_false h]; rfl
        rw [e3, if_neg (by decide), Int.mul_zero]
      rw [e2, e1]
      omega
def nl (T : Mat) (c : List Int) : Ser := fun k => (((lvW T c k).filter (negB T c)).length : Int)
theorem alt_nf (k : Nat) : ((subl c).map fun J => sgn J.length * nf T c J k).sum = nl T c k := by
  have e1 : ((subl c).map fun J => sgn J.length * nf T c J k).sum = ((subl c).map fun J => ((lvW T c k).map fun w => sgn J.length * (if fntB T J w = true then (1 : Int) else 0)).sum).sum := sum_congr fun J _ => by
    unfold nf frW
    rw [len_sum, sum_mul]
  rw [e1, sum_swap]
  unfold nl
  rw [len_sum]
  exact sum_congr fun w _ => alt_one w c
theorem negB_iff (ht : Tab T) (hc : Wd T.length c) {w : List Int} (hw : Wd T.length w) : negB T c w = true ↔ Neg T c w := by
  unfold negB
  rw [List.all_eq_true]
  constructor
  · intro h a ha
    have q := h a ha
    have nz := row_nz ht hw (ix_lt (hc a ha))
    by_cases z : 0 < (row T w).getD (ix a) 0
    · rw [decide_eq_true z] at q; cases q
    · omega
  · intro h a ha
    have := h a ha
    rw [decide_eq_false (by omega)]; rfl
def lgN (T : Mat) (c : List Int) : Option Nat := (lgF T c 61 (one T) []).map List.length
theorem nl_eq (ht : Tab T) (hc : Wd T.length c) {k : Nat} (hk : k ≤ 60) : nl T c k = match lgN T c with
    | some N => if k = N then 1 else 0
    | none => 0 := by
  have lv := lvW_ok ht hc k
  unfold nl lgN
  cases e : lgF T c 61 (one T) [] with
  | none =>
    show _ = (0 : Int)
    cases ef : (lvW T c k).filter (negB T c) with
    | nil => rfl
    | cons w ws =>
      have hm : w ∈ (lvW T c k).filter (negB T c) := by rw [ef]; exact List.mem_cons_self
      obtain ⟨h1, h2⟩ := List.mem_filter.mp hm
      obtain ⟨o1, o2, o3⟩ := lv.on w h1
      have n := (negB_iff ht hc (ov_wd hc o1)).mp h2
      obtain ⟨z, hz, _⟩ := lg_len ht hc o1 n o2 (by omega)
      rw [e] at hz
      cases hz
  | some u =>
    obtain ⟨g1, g2, g3, g4⟩ := lg_ok ht hc e
    have wu := ov_wd hc g1
    show _ = if k = u.length then (1 : Int) else 0
    have key : ∀ w ∈ (lvW T c k).filter (negB T c), row T w = row T u ∧ k = u.length := fun w hm => by
      obtain ⟨h1, h2⟩ := List.mem_filter.mp hm
      obtain ⟨o1, o2, o3⟩ := lv.on w h1
      have n := (negB_iff ht hc (ov_wd hc o1)).mp h2
      have er := lon_two ht hc o1 g1 n g3
      refine ⟨er, ?_⟩
      have := (o2.cong (ov_wd hc o1) wu er).uniq g2
      omega
    by_cases h : k = u.length
    · rw [if_pos h]
      obtain ⟨w, hw, ew⟩ := List.mem_map.mp (lv.all u g1 (by rw [h]; exact g2))
      have ow := lv.on w hw
      have nw : negB T c w = true := (negB_iff ht hc (ov_wd hc ow.1)).mpr fun a ha => by rw [ew]; exact g3 a ha
      have hm : w ∈ (lvW T c k).filter (negB T c) := List.mem_filter.mpr ⟨hw, nw⟩
      have nd : (((lvW T c k).filter (negB T c)).map (row T)).Nodup := lv.nd.sublist (List.filter_sublist.map _)
      cases ef : (lvW T c k).filter (negB T c) with
      | nil => rw [ef] at hm; exact nomatch hm
      | cons a l =>
        cases l with
        | nil => rfl
        | cons b l =>
          rw [ef] at nd key
          have e1 := (key a List.mem_cons_self).1
          have e2 := (key b (List.mem_cons_of_mem _ List.mem_cons_self)).1
          exact absurd (by rw [e1, ← e2]; exact List.mem_cons_self) (List.nodup_cons.mp nd).1
    · rw [if_neg h]
      cases ef : (lvW T c k).filter (negB T c) with
      | nil => rfl
      | cons w ws => exact absurd (key w (by rw [ef]; exact List.mem_cons_self)).2 h
def invL (f : Ser) : Nat → List Int
  | 0 => [1]
  | k + 1 => invL f k ++ [- sm (fun l => f (k + 1 - l) * (invL f k).getD l 0) (k + 1)]
def invS (f : Ser) : Ser := fun k => (invL f k).getD k 0
theorem invL_len (f : Ser) : ∀ k, (invL f k).length = k + 1
  | 0 => rfl
  | k + 1 => by unfold invL; rw [List.length_append, invL_len f k]; rfl
theorem invL_at (f : Ser) : ∀ (k l : Nat), l ≤ k → (invL f k).getD l 0 = invS f l
  | 0, l, h => by
    obtain rfl : l = 0 := by omega
    rfl
  | k + 1, l, h => by
    by_cases e : l = k + 1
    · rw [e]; rfl
    · unfold invL
      rw [List.getD_eq_getElem?_getD, List.getElem?_append_left (by rw [invL_len]; omega), ← List.getD_eq_getElem?_getD]
      exact invL_at f k l (by omega)
theorem invS_zero (f : Ser) : invS f 0 = 1 := rfl
theorem invS_succ (f : Ser) (k : Nat) : invS f (k + 1) = - sm (fun l => f (k + 1 - l) * invS f l) (k + 1) := by
  show (invL f (k + 1)).getD (k + 1) 0 = _
  unfold invL
  rw [List.getD_eq_getElem?_getD, List.getElem?_append_right (by rw [invL_len]; exact Nat.le_refl _), invL_len, Nat.sub_self]
  show - _ = - _
  congr 1
  refine sm_congr fun l hl => ?_
  rw [invL_at f k l (by omega)]
theorem inv_cv {f : Ser} (h : f 0 = 1) : cv (invS f) f = e0 := by
  funext k
  cases k with
  | zero =>
    show 0 + invS f 0 * f 0 = 1
    rw [invS_zero, h]; rfl
  | succ k =>
    show sm (fun i => invS f i * f (k + 1 - i)) (k + 1) + invS f (k + 1) * f (k + 1 - (k + 1)) = 0
    rw [Nat.sub_self, h, Int.mul_one, invS_succ]
    have : sm (fun i => invS f i * f (k + 1 - i)) (k + 1) = sm (fun l => f (k + 1 - l) * invS f l) (k + 1) := sm_congr fun i _ => Int.mul_comm _ _
    rw [this]
    omega
def qs (T : Mat) (c : List Int) : Ser := invS (nc T c)
theorem qs_part (ht : Tab T) (hc : Wd T.length c) {J : List Int} (hJ : ∀ a ∈ J, a ∈ c) : qs T J = cv (nf T c J) (qs T c) := by
  have i1 : cv (qs T J) (nc T J) = e0 := inv_cv (nc_zero J)
  have i2 : cv (qs T c) (nc T c) = e0 := inv_cv (nc_zero c)
  have e1 : cv (qs T J) (nc T c) = nf T c J := by
    rw [nc_cv ht hc hJ, cv_comm (nf T c J), ← cv_assoc, i1, cv_e0]
  have e2 : cv (nc T c) (qs T c) = e0 := by rw [cv_comm, i2]
  calc qs T J = cv e0 (qs T J) := (cv_e0 _).symm
    _ = cv (qs T J) e0 := cv_comm _ _
    _ = cv (qs T J) (cv (nc T c) (qs T c)) := by rw [e2]
    _ = cv (cv (qs T J) (nc T c)) (qs T c) := (cv_assoc _ _ _).symm
    _ = cv (nf T c J) (qs T c) := by rw [e1]
theorem subl_sub : ∀ {c J : List Int}, J ∈ subl c → ∀ a ∈ J, a ∈ c
  | [], J, h, a, ha => by rw [List.mem_singleton.mp h] at ha; exact ha
  | b :: l, J, h, a, ha => by
    rcases List.mem_append.mp h with h | h
    · exact List.mem_cons_of_mem _ (subl_sub h a ha)
    · obtain ⟨K, hK, rfl⟩ := List.mem_map.mp h
      rcases List.mem_cons.mp ha with rfl | ha
      · exact List.mem_cons_self
      · exact List.mem_cons_of_mem _ (subl_sub hK a ha)
theorem sum_cv {α : Type} (s : α → Int) (F : α → Ser) (g : Ser) (k : Nat) : ∀ l : List α, (l.map fun J => s J * cv (F J) g k).sum = cv (fun i => (l.map fun J => s J * F J i).sum) g k
  | [] => by
    unfold cv
    exact (sm_zero fun j _ => by show (0 : Int) * _ = 0; rw [Int.zero_mul]).symm
  | a :: l => by
    rw [List.map_cons, sum_cons', sum_cv s F g k l]
    unfold cv
    rw [← sm_mul, ← sm_add]
    refine sm_congr fun i _ => ?_
    try dsimp only
    rw [List.map_cons, sum_cons', Int.add_mul, Int.mul_assoc]
theorem qs_alt (ht : Tab T) (hc : Wd T.length c) {k : Nat} (hk : k ≤ 60) : ((subl c).map fun J => sgn J.length * qs T J k).sum = match lgN T c with
    | some N => sft N (qs T c) k
    | none => 0 := by
  have e1 : ((subl c).map fun J => sgn J.length * qs T J k).sum = ((subl c).map fun J => sgn J.length * cv (nf T c J) (qs T c) k).sum := sum_congr fun J hJ => by rw [qs_part ht hc (subl_sub hJ)]
  rw [e1, sum_cv]
  have e2 : (fun i => ((subl c).map fun J => sgn J.length * nf T c J i).sum) = nl T c := funext fun i => alt_nf i
  rw [e2]
  cases e : lgN T c with
  | none =>
    show _ = (0 : Int)
    unfold cv
    refine sm_zero fun i hi => ?_
    have := nl_eq ht hc (k := i) (by omega)
    rw [e] at this
    rw [this, Int.zero_mul]
  | some N =>
    have e3 : cv (nl T c) (qs T c) k = cv (sft N e0) (qs T c) k := cv_congr (m := k) (Nat.le_refl _) (fun i hi => by
      have := nl_eq ht hc (k := i) (by omega)
      rw [e] at this
      rw [this]
      unfold sft e0
      show (if i = N then (1 : Int) else 0) = _
      by_cases q : N ≤ i
      · rw [if_pos q]
        by_cases z : i = N
        · rw [if_pos z, if_pos (by omega)]
        · rw [if_neg z, if_neg (by omega)]
      · rw [if_neg q, if_neg (by omega)]) fun _ _ => rfl
    rw [e3, cv_sft, cv_e0]
end
end BW
set_option autoImplicit false
set_option maxHeartbeats 1000000
namespace BW
open PySem L2 DL
open TT (sm sm_congr sm_add sm_mul sm_zero sm_one)
theorem sum_rng (f : Nat → Int) : ∀ n, ((List.range n).map f).sum = sm f n
  | 0 => rfl
  | n + 1 => by
    rw [List.range_succ, List.map_append, sum_app', sum_rng f n, sm_succ]
    show _ + (f n + 0) = _
    omega
theorem subl_len : ∀ c : List Int, (subl c).length = 2 ^ c.length
  | [] => rfl
  | a :: l => by
    show (subl l ++ (subl l).map (a :: ·)).length = 2 ^ (l.length + 1)
    rw [List.length_append, List.length_map, subl_len l, Nat.pow_succ]; omega
abbrev prop (c : List Int) : List (List Int) := (subl c).dropLast
theorem subl_last : ∀ c : List Int, subl c = prop c ++ [c]
  | [] => rfl
  | a :: l => by
    have ih := subl_last l
    have e : subl (a :: l) = (subl l ++ (prop l).map (a :: ·)) ++ [a :: l] := by
      show subl l ++ (subl l).map (a :: ·) = _
      rw [List.append_assoc]
      congr 1
      conv => lhs; rw [ih]
      rw [List.map_append]; rfl
    rw [e]
    unfold prop
    rw [e, List.dropLast_concat]
theorem mem_subl : ∀ {c J : List Int}, c.Pairwise (· < ·) → (J ∈ subl c ↔ J.Pairwise (· < ·) ∧ ∀ a ∈ J, a ∈ c)
  | [], J, _ => by
    constructor
    · intro h
      rw [List.mem_singleton.mp h]
      exact ⟨.nil, fun a h => h⟩
    · intro ⟨_, h⟩
      cases J with
      | nil => exact List.mem_singleton.mpr rfl
      | cons a J => exact nomatch h a List.mem_cons_self
  | b :: l, J, pc => by
    obtain ⟨p1, p2⟩ := List.pairwise_cons.mp pc
    constructor
    · intro h
      rcases List.mem_append.mp h with h | h
      · obtain ⟨q1, q2⟩ := (mem_subl p2).mp h
        exact ⟨q1, fun a ha => List.mem_cons_of_mem _ (q2 a ha)⟩
      · obtain ⟨K, hK, rfl⟩ := List.mem_map.mp h
        obtain ⟨q1, q2⟩ := (mem_subl p2).mp hK
        exact ⟨List.pairwise_cons.mpr ⟨fun x hx => p1 x (q2 x hx), q1⟩, fun a ha => (List.mem_cons.mp ha).elim (fun e => e ▸ List.mem_cons_self) fun h => List.mem_cons_of_mem _ (q2 a h)⟩
    · intro ⟨q1, q2⟩
      cases J with
      | nil => exact List.mem_append_left _ ((mem_subl p2).mpr ⟨.nil, fun a h => (nomatch h)⟩)
      | cons a J =>
        obtain ⟨r1, r2⟩ := List.pairwise_cons.mp q1
        have up : ∀ x ∈ J, x ∈ l := fun x hx => by
          rcases List.mem_cons.mp (q2 x (List.mem_cons_of_mem _ hx)) with e | h
          · have h1 := r1 x hx
            rcases List.mem_cons.mp (q2 a List.mem_cons_self) with e2 | h2
            · omega
            · have := p1 a h2; omega
          · exact h
        rcases List.mem_cons.mp (q2 a List.mem_cons_self) with rfl | h
        · exact List.mem_append_right _ (List.mem_map.mpr ⟨J, (mem_subl p2).mpr ⟨r2, up⟩, rfl⟩)
        · exact List.mem_append_left _ ((mem_subl p2).mpr ⟨q1, fun x hx => (List.mem_cons.mp hx).elim (fun e => e ▸ h) (up x)⟩)
theorem subl_nodup : ∀ {c : List Int}, c.Pairwise (· < ·) → (subl c).Nodup
  | [], _ => List.nodup_cons.mpr ⟨by simp, List.nodup_nil⟩
  | b :: l, pc => by
    obtain ⟨p1, p2⟩ := List.pairwise_cons.mp pc
    refine List.nodup_append.mpr ⟨subl_nodup p2, List.pairwise_map.mpr ((subl_nodup p2).imp fun h e => h (by injection e)), fun x hx y hy e => ?_⟩
    obtain ⟨K, hK, rfl⟩ := List.mem_map.mp hy
    have := ((mem_subl p2).mp hx).2 b (by rw [e]; exact List.mem_cons_self)
    have := p1 b this
    omega
theorem subl_le : ∀ {c J : List Int}, J ∈ subl c → J.length ≤ c.length
  | [], J, h => by rw [List.mem_singleton.mp h]; exact Nat.le_refl _
  | b :: l, J, h => by
    rcases List.mem_append.mp h with h | h
    · have := subl_le h
      show _ ≤ l.length + 1
      omega
    · obtain ⟨K, hK, rfl⟩ := List.mem_map.mp h
      have := subl_le hK
      show K.length + 1 ≤ l.length + 1
      omega
theorem prop_lt : ∀ {c J : List Int}, J ∈ prop c → J.length < c.length
  | [], J, h => (nomatch h)
  | a :: l, J, h => by
    have e : prop (a :: l) = subl l ++ (prop l).map (a :: ·) := by
      have ih := subl_last l
      have e : subl (a :: l) = (subl l ++ (prop l).map (a :: ·)) ++ [a :: l] := by
        show subl l ++ (subl l).map (a :: ·) = _
        rw [List.append_assoc]
        congr 1
        conv => lhs; rw [ih]
        rw [List.map_append]; rfl
      unfold prop
      rw [e, List.dropLast_concat]
    rw [e] at h
    rcases List.mem_append.mp h with h | h
    · have := subl_le h
      show _ < l.length + 1
      omega
    · obtain ⟨K, hK, rfl⟩ := List.mem_map.mp h
      have := prop_lt hK
      show K.length + 1 < l.length + 1
      omega
theorem prop_sub {c J : List Int} (h : J ∈ prop c) : J ∈ subl c := List.dropLast_subset _ h
theorem prop_len (c : List Int) : (prop c).length + 1 = 2 ^ c.length := by
  have h := subl_len c
  rw [subl_last, List.length_append, List.length_singleton] at h
  exact h
theorem sgn_sub {n m : Nat} (h : m ≤ n) : sgn (n - m) = sgn n * sgn m := by
  obtain ⟨d, rfl⟩ : ∃ d, n = m + d := ⟨n - m, by omega⟩
  rw [show m + d - m = d by omega, sgn_add, Int.mul_comm (sgn m), Int.mul_assoc, sgn_sq, Int.mul_one]
theorem sgn_one (n : Nat) : sgn n = 1 ∨ sgn n = -1 := by
  unfold sgn
  by_cases h : n % 2 = 1
  · exact .inr (if_pos h)
  · exact .inl (if_neg h)
section
variable {T : Mat} {c : List Int}
def dwn (T : Mat) (c : List Int) (k : Nat) : Int := match lgN T c with
  | some N => if N ≤ k then sgn c.length * qs T c (k - N) else 0
  | none => 0
def alX (T : Mat) (c : List Int) (k : Nat) : Int := match lgN T c with
  | some N => sft N (qs T c) k
  | none => 0
theorem qs_rec (ht : Tab T) (hc : Wd T.length c) {k : Nat} (hk : k ≤ 60) : qs T c k = ((prop c).map fun J => -(sgn (c.length - J.length)) * qs T J k).sum + dwn T c k := by
  have h := qs_alt ht hc hk
  rw [subl_last, List.map_append, sum_app'] at h
  have h : ((prop c).map fun J => sgn J.length * qs T J k).sum + (sgn c.length * qs T c k + 0) = alX T c k := h
  have e1 : ((prop c).map fun J => -(sgn (c.length - J.length)) * qs T J k).sum = (-(sgn c.length)) * ((prop c).map fun J => sgn J.length * qs T J k).sum := by
    rw [← sum_mul]
    refine sum_congr fun J hJ => ?_
    rw [sgn_sub (Nat.le_of_lt (prop_lt hJ)), Int.neg_mul, Int.neg_mul, Int.mul_assoc]
  have e2 : dwn T c k = sgn c.length * alX T c k := by
    unfold dwn alX
    cases lgN T c with
    | none => show (0 : Int) = _ * 0; rw [Int.mul_zero]
    | some N =>
      show (if N ≤ k then sgn c.length * qs T c (k - N) else 0) = sgn c.length * sft N (qs T c) k
      unfold sft
      by_cases q : N ≤ k
      · rw [if_pos q, if_pos q]
      · rw [if_neg q, if_neg q, Int.mul_zero]
  rw [e1, e2, ← h, Int.mul_add, Int.add_zero, ← Int.mul_assoc, sgn_sq, Int.one_mul, Int.neg_mul]
  omega
theorem qs_zero (c : List Int) : qs T c 0 = 1 := rfl
theorem nc_none : ∀ k, nc T [] (k + 1) = 0
  | 0 => rfl
  | k + 1 => by
    have : lvW T [] (k + 2) = upW T [] ((lvW T [] (k + 1)).flatMap fun u => (([] : List Int).filter fun a => decide (0 < (row T u).getD (ix a) 0)).map fun a => u ++ [a]) [] := rfl
    have e : ((lvW T [] (k + 1)).flatMap fun u => (([] : List Int).filter fun a => decide (0 < (row T u).getD (ix a) 0)).map fun a => u ++ [a]) = [] := List.flatMap_eq_nil_iff.mpr fun u _ => rfl
    unfold nc
    rw [this, e]; rfl
theorem qs_none (k : Nat) : qs T [] (k + 1) = 0 := by
  unfold qs
  rw [invS_succ]
  have : sm (fun l => nc T [] (k + 1 - l) * invS (nc T []) l) (k + 1) = 0 := sm_zero fun l hl => by
    rw [show k + 1 - l = (k - l) + 1 by omega, nc_none, Int.zero_mul]
  rw [this]; rfl
theorem lgN_pos (ht : Tab T) (hc : Wd T.length c) (ne : c ≠ []) {N : Nat} (h : lgN T c = some N) : 1 ≤ N ∧ N ≤ 60 := by
  unfold lgN at h
  cases e : lgF T c 61 (one T) [] with
  | none => rw [e] at h; cases h
  | some u =>
    rw [e] at h
    cases h
    obtain ⟨g1, g2, g3, g4⟩ := lg_ok ht hc e
    refine ⟨?_, g4⟩
    cases u with
    | cons a u => show 1 ≤ u.length + 1; omega
    | nil =>
      cases c with
      | nil => exact absurd rfl ne
      | cons a c =>
        have := g3 a List.mem_cons_self
        have e1 : (row T []).getD (ix a) 0 = 1 := by
          show (one T).getD (ix a) 0 = 1
          unfold one
          rw [List.getD_eq_getElem?_getD, List.getElem?_replicate, if_pos (ix_lt (hc a List.mem_cons_self))]; rfl
        rw [e1] at this
        omega
def qB : Nat → Int
  | 0 => 1
  | n + 1 => 61 * (2 ^ (n + 1) * qB n)
theorem p2_pos : ∀ n : Nat, (1 : Int) ≤ 2 ^ n
  | 0 => Int.le_refl _
  | n + 1 => by have := p2_pos n; rw [Int.pow_succ]; omega
theorem qB_pos : ∀ n, 1 ≤ qB n
  | 0 => Int.le_refl _
  | n + 1 => by
    have h := qB_pos n
    have p : (1 : Int) ≤ 2 ^ (n + 1) := p2_pos (n + 1)
    have := Int.mul_le_mul p h (by decide) (by omega)
    show 1 ≤ 61 * (2 ^ (n + 1) * qB n)
    omega
theorem qB_step (n : Nat) : qB n ≤ qB (n + 1) := by
  have h := qB_pos n
  have p : (1 : Int) ≤ 2 ^ (n + 1) := p2_pos (n + 1)
  have := Int.mul_le_mul_of_nonneg_right p (show 0 ≤ qB n by omega)
  show _ ≤ 61 * (2 ^ (n + 1) * qB n)
  omega
theorem qB_mono {n m : Nat} (h : n ≤ m) : qB n ≤ qB m := by
  induction h with
  | refl => exact Int.le_refl _
  | step _ ih => exact Int.le_trans ih (qB_step _)
theorem sum_abs {α : Type} (f : α → Int) (B : Int) : ∀ l : List α, (∀ x ∈ l, -B ≤ f x ∧ f x ≤ B) → -(l.length * B) ≤ (l.map f).sum ∧ (l.map f).sum ≤ l.length * B
  | [], _ => by show -((0 : Nat) * B) ≤ 0 ∧ 0 ≤ ((0 : Nat) : Int) * B; rw [show ((0 : Nat) : Int) = 0 from rfl, Int.zero_mul]; exact ⟨by omega, Int.le_refl _⟩
  | a :: l, h => by
    obtain ⟨h1, h2⟩ := h a List.mem_cons_self
    obtain ⟨h3, h4⟩ := sum_abs f B l fun x hx => h x (List.mem_cons_of_mem _ hx)
    rw [List.map_cons, sum_cons', List.length_cons, Int.natCast_add, Int.add_mul, show ((1 : Nat) : Int) = 1 from rfl, Int.one_mul]
    omega
theorem sg_abs {s x B : Int} (hs : s = 1 ∨ s = -1) (h : -B ≤ x ∧ x ≤ B) : -B ≤ s * x ∧ s * x ≤ B := by
  rcases hs with rfl | rfl <;> omega
theorem qs_bd (ht : Tab T) : ∀ (n : Nat) {c : List Int}, c.length = n → Wd T.length c → ∀ k, k ≤ 60 → -(qB n) ≤ qs T c k ∧ qs T c k ≤ qB n
  | 0, c, e, hc, k, hk => by
    rw [List.length_eq_zero_iff.mp e]
    show -1 ≤ _ ∧ _ ≤ 1
    cases k with
    | zero => rw [qs_zero]; omega
    | succ k => rw [qs_none]; omega
  | n + 1, c, e, hc, k, hk => by
    have key : ∀ m k, k ≤ m → k ≤ 60 → -((k + 1 : Nat) * (2 ^ (n + 1) * qB n)) ≤ qs T c k ∧ qs T c k ≤ (k + 1 : Nat) * (2 ^ (n + 1) * qB n) := by
      intro m
      induction m with
      | zero =>
        intro k h1 h2
        obtain rfl : k = 0 := by omega
        have h := qB_pos n
        have p : (1 : Int) ≤ 2 ^ (n + 1) := p2_pos (n + 1)
        have := Int.mul_le_mul p h (by decide) (by omega)
        rw [qs_zero]
        omega
      | succ m ih =>
        intro k h1 h2
        have r := qs_rec ht hc h2
        obtain ⟨s1, s2⟩ := sum_abs (fun J => -(sgn (c.length - J.length)) * qs T J k) (qB n) (prop c) fun J hJ => by
          have hl := prop_lt hJ
          have := qs_bd ht J.length rfl (fun a ha => hc a (subl_sub (prop_sub hJ) a ha)) k h2
          have mo := qB_mono (n := J.length) (m := n) (by omega)
          refine sg_abs ?_ ⟨by omega, by omega⟩
          rcases sgn_one (c.length - J.length) with h | h <;> rw [h]
          · exact .inr rfl
          · exact .inl rfl
        have pl := prop_len c
        rw [e] at pl
        have hq := qB_pos n
        have b1 : ((prop c).length : Int) * qB n ≤ 2 ^ (n + 1) * qB n := Int.mul_le_mul_of_nonneg_right (by
          have : ((2 ^ (n + 1) : Nat) : Int) = 2 ^ (n + 1) := by rw [Int.natCast_pow]; rfl
          omega) (by omega)
        generalize hZ : (2 : Int) ^ (n + 1) * qB n = Z at b1 ⊢
        have hd : -((k : Nat) * Z) ≤ dwn T c k ∧ dwn T c k ≤ (k : Nat) * Z := by
          have z0 : 0 ≤ (k : Int) * Z := Int.mul_nonneg (by omega) (by
            have p : (1 : Int) ≤ 2 ^ (n + 1) := p2_pos (n + 1)
            have := Int.mul_le_mul p hq (by decide) (by omega)
            omega)
          unfold dwn
          cases eN : lgN T c with
          | none => exact ⟨by show _ ≤ (0 : Int); omega, by show (0 : Int) ≤ _; omega⟩
          | some N =>
            show _ ≤ (if N ≤ k then _ else _) ∧ (if N ≤ k then _ else _) ≤ _
            by_cases q : N ≤ k
            · rw [if_pos q]
              have np := (lgN_pos ht hc (by intro z; rw [z] at e; cases e) eN).1
              have i := ih (k - N) (by omega) (by omega)
              rw [hZ] at i
              have : ((k - N + 1 : Nat) : Int) * Z ≤ (k : Int) * Z := Int.mul_le_mul_of_nonneg_right (by omega) (by
                have p : (1 : Int) ≤ 2 ^ (n + 1) := p2_pos (n + 1)
                have := Int.mul_le_mul p hq (by decide) (by omega)
                omega)
              exact sg_abs (sgn_one _) ⟨by omega, by omega⟩
            · rw [if_neg q]
              exact ⟨by omega, by omega⟩
        have : ((k + 1 : Nat) : Int) * Z = k * Z + Z := by rw [Int.natCast_add, Int.add_mul]; show _ + 1 * Z = _; omega
        rw [this, r]
        omega
    obtain ⟨a, b⟩ := key k k (Nat.le_refl _) hk
    show -(61 * (2 ^ (n + 1) * qB n)) ≤ _ ∧ _ ≤ 61 * (2 ^ (n + 1) * qB n)
    have hq := qB_pos n
    have z0 : 0 ≤ (2 : Int) ^ (n + 1) * qB n := by
      have p : (1 : Int) ≤ 2 ^ (n + 1) := p2_pos (n + 1)
      have := Int.mul_le_mul p hq (by decide) (by omega)
      omega
    have : ((k + 1 : Nat) : Int) * (2 ^ (n + 1) * qB n) ≤ 61 * (2 ^ (n + 1) * qB n) := Int.mul_le_mul_of_nonneg_right (by omega) z0
    omega
theorem qs_small (ht : Tab T) (hc : Wd T.length c) (hl : c.length ≤ 6) {k : Nat} (hk : k ≤ 60) : -(2 ^ 64) < qs T c k ∧ qs T c k < 2 ^ 64 := by
  have h := qs_bd ht _ rfl hc k hk
  have m := qB_mono hl
  have e : qB 6 < 2 ^ 64 := by decide
  omega
theorem nc_rec (c : List Int) (k : Nat) : nc T c (k + 1) = - sm (fun l => qs T c (k + 1 - l) * nc T c l) (k + 1) := by
  have i : cv (nc T c) (qs T c) = e0 := by
    rw [cv_comm]
    exact inv_cv (nc_zero c)
  have h : cv (nc T c) (qs T c) (k + 1) = e0 (k + 1) := by rw [i]
  have h : sm (fun i => nc T c i * qs T c (k + 1 - i)) (k + 1) + nc T c (k + 1) * qs T c (k + 1 - (k + 1)) = 0 := h
  rw [Nat.sub_self, qs_zero, Int.mul_one] at h
  have : sm (fun l => qs T c (k + 1 - l) * nc T c l) (k + 1) = sm (fun i => nc T c i * qs T c (k + 1 - i)) (k + 1) := sm_congr fun i _ => Int.mul_comm _ _
  rw [this]
  omega
end
end BW
set_option maxHeartbeats 1000000
namespace DL
open PySem L2
open PySem.W (Frag)
end DL
set_option autoImplicit false
set_option maxHeartbeats 1000000
namespace DL
open PySem PySem.Spec PyProof.Rows L2
open PySem.W (Frag)
theorem Rl.dctE {K : Frag} {H : Hp} {v : V} {ks : List (List Int)} {ds : List D} (h : Rl K H v (.dct ks ds)) : ∃ (a : Addr) (L : List Ve) (o : Obj), v = .ref a ∧ H a = some (.ext (DvE a L (some o))) ∧ (∀ x ∈ L, SqT K H x.1 (x.2.1.map V.int)) ∧ kVs L = ks ∧ RlA K H (L.map (·.2.2)) ds := by
  cases h with
  | dct h k e1 e2 r =>
    subst e2
    exact ⟨_, _, _, rfl, h, k, e1, r⟩
theorem rlA_zip {K : Frag} {A : Hp} {r : List Int} {d : D} : ∀ {L : List Ve} {ks : List (List Int)} {ds : List D}, kVs L = ks → RlA K A (L.map (·.2.2)) ds → (r, d) ∈ ks.zip ds → ∃ a v, (a, r, v) ∈ L ∧ Rl K A v d
  | [], ks, ds, e, _, h => by subst e; exact nomatch h
  | x :: L, ks, ds, e, q, h => by
    subst e
    cases q with
    | cons q1 q2 =>
      rcases List.mem_cons.mp h with h | h
      · cases h
        exact ⟨x.1, x.2.2, List.mem_cons_self, q1⟩
      · obtain ⟨a, v, h1, h2⟩ := rlA_zip (L := L) rfl q2 h
        exact ⟨a, v, List.mem_cons_of_mem _ h1, h2⟩
abbrev oIxK : O2 := fun x y Q => ∃ ks xs r d, x = .dct ks xs ∧ y = tuI r ∧ (r, d) ∈ ks.zip xs ∧ Q d
abbrev iKs (t : DE) : DI := fun s Q => t s fun d k => ∃ ks xs, d = .dct ks xs ∧ Q (ks.map tuI) k
def iDvR (td : TE) : TI := fun σ H R => td σ H fun x H1 => ∃ p L o, x = .ref p ∧ H1 p = some (.ext (DvE p L (some o))) ∧ R (Itv p L o) H1
theorem pi_dvr {X : Cx} {tg e : Expr} {td : TE} (he : PE X e td) : PI X tg e (iDvR td) := by
  refine ⟨fun pins s σ H R I h => ?_⟩
  refine thn (he.run pins s σ H _ I h) fun u s1 ⟨x, H1, I1, rx, p, L, o, ex, hp, q⟩ => ?_
  subst ex
  obtain rfl : u = Value.ref p := rx
  obtain ⟨⟨o1, es, ep, h1, hl, h2, h3, h4, us, h5, h6, h7, h8⟩, _, _⟩ := (show ObjOk X.prog X.w H1 s1.heap p (.ext (DvE p L (some o))) from I1.hok p _ hp)
  obtain rfl := hl o rfl
  have hsz := dv_size h5 h7
  refine iter_keys h4 h1 h2 h3 (pi_one (tk := s1.toks) I1 _ (turn_dv _ h3) ⟨_, Heap.get?_push_size _ rfl, rfl, ?_⟩ q)
  rw [hsz] <;> rfl
theorem Yl.dct {c : C} {s0 : S} {Hs : Hp} {p : Addr} {L : List Ve} {o : Obj} (h : c.hid s0.X Hs p = some (.ext (DvE p L (some o)))) (k : ∀ x ∈ L, SqT c.K (c.hid s0.X Hs) x.1 (x.2.1.map V.int)) : Yl c s0 Hs (Itv p L o) ((kVs L).map tuI) := fun i s σ H rp ad => by
  have h1 : H p = some (.ext (DvE p L (some o))) := wo_sub _ _ _ _ (ad _ _ h)
  refine ⟨fun hl => ⟨h1, by rw [List.length_map, List.length_map] at hl; exact hl⟩, fun d hd => ?_⟩
  rw [List.getElem?_map, List.getElem?_map] at hd
  obtain ⟨r, hr, rfl⟩ := Option.map_eq_some_iff.mp hd
  obtain ⟨y, hy, rfl⟩ := Option.map_eq_some_iff.mp hr
  refine ⟨⟨h1, (List.getElem?_eq_some_iff.mp hy).1⟩, fun x H' ⟨e1, y2, hy2, e2⟩ => ?_⟩
  subst e1 e2
  rw [hy] at hy2
  cases hy2
  exact ⟨rp, AdvE.refl, .tup (ad.st (k y (List.mem_of_getElem? hy))) (.ints _)⟩
section
variable {X : Cx} {c : C} {pos : Pos} {tg : Expr}
theorem pd_ixK {l : Nat} (hr : Room l X.A) (hK : c.K = X.K) {o i : Expr} {t u : DE} (ho : PE X o (LE c t)) (hi : PE X i (LE c u)) (hs : NoSl i := by intro _ _; rfl) : PE X (.Subscript o i pos) (LE c (dOp oIxK t u)) :=
  (pe_getV (hu_of hr) ho hi hs).weak fun σ H Q ⟨s, R, rp, q, f⟩ => ⟨s, _, rp, q, fun x k hx v H1 r1 a1 e1 => ⟨s.at k, _, r1, hx, fun y k2 ⟨ks, xs, r, d, ex, ey, hm, hR⟩ w H2 r2 a2 e2 => by
    subst ex ey
    obtain ⟨p, L, ob, rfl, h1, h2, h3, h4⟩ := (e1.mono a2.sub).dctE
    obtain ⟨qa, vs, rfl, g1, ra⟩ := e2.tupE
    obtain rfl := ra.ints_v
    obtain ⟨a, z, m1, m2⟩ := rlA_zip h3 h4 hm
    exact ⟨p, qa, L, r, z, some ob, rfl, rfl, wo_sub _ _ _ _ h1, fun x hx => hK ▸ (wo_sub _ _ : Sub _ _).st (h2 x hx), hK ▸ (wo_sub _ _ : Sub _ _).st g1, ⟨a, m1⟩, f d k2 hR z H2 r2 (a1.trans a2) m2⟩⟩⟩
theorem pid_ks (hK : c.K = X.K) {l : Expr} {t : DE} (h : PE X l (LE c t)) : PI X tg l (LI c (iKs t)) :=
  PI.weak (pi_dvr h) fun σ H R ⟨s, Z, rp, q, f⟩ => ⟨s, _, rp, q, fun d k ⟨ks, xs, hd, hz⟩ v H1 r1 a1 e1 => by
    subst hd
    obtain ⟨p, L, ob, rfl, h1, h2, rfl, h4⟩ := e1.dctE
    exact ⟨p, L, ob, rfl, wo_sub _ _ _ _ h1, f _ k hz _ H1 r1 a1 (Yl.dct h1 h2)⟩⟩
theorem dve_unlock {pins : List (Addr × Obj)} {σ : L2.St} {H : Hp} {s : Shared} {p : Addr} {L : List Ve} {o : Obj} (I : L2.Inv X pins σ H s) (hp : H p = some (.ext (DvE p L (some o)))) : L2.Inv X pins σ (upd H p (.ext (DvE p L none))) s := by
  obtain ⟨⟨o1, es, ep, h1, hl, h2, h3, h4, us, h5, h6, h7, h8⟩, _, _⟩ := (show ObjOk X.prog X.w H s.heap p (.ext (DvE p L (some o))) from I.hok p _ hp)
  exact d_write (h' := s.heap) (t' := s.toks) I (by rw [hp]; exact True.intro) ⟨rfl, fun _ _ => rfl⟩ ⟨o1, h1⟩ ⟨⟨o1, es, ep, h1, fun _ z => (nomatch z), h2, h3, h4, us, h5, h6, h7, h8⟩, ⟨o1, h1⟩, fun g1 g2 ⟨o, es, ep, k1, k0, k2, k3, k4, k5⟩ st => ⟨o, es, ep, st o k1, k0, k2, k3, k4, k5⟩⟩
theorem pe_lockV {e : Expr} {t : TE} (h : PE X e t) : PE X e (fun σ H Q => ∃ p L, H p = some (.ext (DvE p L none)) ∧ ∀ o, t σ (upd H p (.ext (DvE p L (some o)))) Q) :=
  ⟨fun pins s σ H Q I ⟨p, L, hp, q⟩ => by
    obtain ⟨o, es, ep, h1, h2, h3, h4, h5, I2⟩ := dve_lock I hp
    exact h.run pins s σ _ _ I2 (q o)⟩
theorem pe_thawV {e : Expr} {t : TE} (h : PE X e t) : PE X e (fun σ H Q => ∃ p L, H p = some (.ext (DvE p L none)) ∧ ∀ o, t σ (upd H p (.ext (DvE p L (some o)))) fun x H' => H' p = some (.ext (DvE p L (some o))) ∧ Q x (upd H' p (.ext (DvE p L none)))) :=
  ⟨fun pins s σ H Q I ⟨p, L, hp, q⟩ => by
    obtain ⟨o, es, ep, h1, h2, h3, h4, h5, I2⟩ := dve_lock I hp
    exact thn (h.run pins s σ _ _ I2 (q o)) fun u s1 ⟨x, H1, I1, rx, e1, q1⟩ => ⟨x, _, dve_unlock I1 e1, rx, q1⟩⟩
theorem sqT_offD {K : Frag} {A : Hp} {p a : Addr} {φ : Heap → Prop} {vs : List V} (hx : A p = some (.ext φ)) (h : SqT K A a vs) : SqT K (wo A [p]) a vs := by
  rcases h with h | h
  · refine .inl ?_
    rcases h with h | ⟨o, h⟩
    · exact .inl (wo_of (fun z => by simp at z; subst z; rw [hx] at h; cases h) h)
    · exact .inr ⟨o, wo_of (fun z => by simp at z; subst z; rw [hx] at h; cases h) h⟩
  · exact .inr h
mutual
theorem rl_offD {K : Frag} {A : Hp} {p : Addr} {φ : Heap → Prop} (hx : A p = some (.ext φ)) : ∀ {v : V} {d : D}, Rl K A v d → D.plain d = true → Rl K (wo A [p]) v d
  | _, _, .non, _ => .non
  | _, _, .bl b, _ => .bl b
  | _, _, .int i, _ => .int i
  | _, _, .str s, _ => .str s
  | _, _, .lst h r, n => .lst (wo_of (fun z => by simp at z; subst z; rw [hx] at h; cases h) h) (rlA_offD hx r n)
  | _, _, .tup h r, n => .tup (sqT_offD hx h) (rlA_offD hx r n)
  | _, _, .dic _, n => by cases n
  | _, _, .ins _ _ _, n => by cases n
  | _, _, .exc _ _ _ _, n => by cases n
  | _, _, .dct _ _ _ _ _, n => by cases n
theorem rlA_offD {K : Frag} {A : Hp} {p : Addr} {φ : Heap → Prop} (hx : A p = some (.ext φ)) : ∀ {vs : List V} {ds : List D}, RlA K A vs ds → plainA ds = true → RlA K (wo A [p]) vs ds
  | _, _, .nil, _ => .nil
  | _, _, .cons h r, n => .cons (rl_offD hx h (Bool.and_eq_true_iff.mp n).1) (rlA_offD hx r (Bool.and_eq_true_iff.mp n).2)
end
theorem Rep.unhide {s : S} {σ : L2.St} {H : Hp} {p : Addr} (r : Rep c s σ H) (h0 : p ∉ c.X0) (hs : ∀ (i : Nat) (ds : List D), s.sl[i]? ≠ some (.own p ds)) : Rep c ⟨s.X.filter (fun a => decide (a ≠ p)), s.sl, s.k⟩ σ H ∧ Sub (c.hid s.X H) (c.hid (s.X.filter (fun a => decide (a ≠ p))) H) := by
  have mf : ∀ a, a ∈ s.X.filter (fun a => decide (a ≠ p)) → a ∈ s.X := fun a ha => (List.mem_filter.mp ha).1
  have sb : Sub (c.hid s.X H) (c.hid (s.X.filter (fun a => decide (a ≠ p))) H) := wo_more fun a ha => List.mem_append.mpr ((List.mem_append.mp ha).imp id (mf a))
  refine ⟨⟨r.sub.trans sb, r.old, fun a ha => List.mem_filter.mpr ⟨r.x0 a ha, decide_eq_true fun z => h0 (z ▸ ha)⟩, fun a ha => r.xm a (mf a ha), fun a ha => r.xs a (mf a ha), r.m, fun i x q => ?_, r.apart, r.len, r.tb, fun a ha => r.xt a (mf a ha)⟩, sb⟩
  have o := r.slot i x q
  cases x with
  | no => trivial
  | dat d =>
    obtain ⟨v, e, h⟩ := o
    exact ⟨v, e, h.mono sb⟩
  | own w as =>
    obtain ⟨q1, q2, q3, q4, us, q5, q6⟩ := o
    exact ⟨q1, List.mem_filter.mpr ⟨q2, decide_eq_true fun z => hs i as (z ▸ q)⟩, q3, q4, us, q5, q6.mono sb⟩
  | mst => exact o
  | kds N Z => exact o
  | scr ns =>
    obtain ⟨v, e, h⟩ := o
    exact ⟨v, e, sb.sl h⟩
theorem set_sameT {α : Type} {l : List α} {i : Nat} {x : α} (h : l[i]? = some x) : l.set i x = l := by
  refine List.ext_getElem? fun j => ?_
  by_cases e : i = j
  · subst e
    rw [List.getElem?_set_self (List.getElem?_eq_some_iff.mp h).1, h]
  · rw [List.getElem?_set_ne e]
theorem DvAt.show {i : Nat} {p : Addr} {L : List Ve} {ks : List Kv} {s : S} {σ : L2.St} {H : Hp} (a : DvAt c i p L ks s σ H) (rp : Rep c s σ H) (o : Obj) :
    Rep c ⟨s.X.filter (fun a => decide (a ≠ p)), s.sl.set i (.dat (.dct (ks.map (·.1)) (ks.map (·.2)))), s.k⟩ σ (upd H p (.ext (DvE p L (some o)))) ∧ c.hid (s.X.filter (fun a => decide (a ≠ p))) (upd H p (.ext (DvE p L (some o)))) p = some (.ext (DvE p L (some o))) := by
  have no := a.noown rp
  have m := Rep.mutX (s := s) rp (o := .ext (DvE p L (some o))) a.mem a.out (fun j ds => no j ds) (dve_tb a.obj)
  have u := m.1.unhide a.out (fun j ds => no j ds)
  have hp : c.hid (s.X.filter (fun a => decide (a ≠ p))) (upd H p (.ext (DvE p L (some o)))) p = some (.ext (DvE p L (some o))) := wo_of (fun z => by
    rcases List.mem_append.mp z with z | z
    · exact rp.xm p a.mem z
    · exact of_decide_eq_true (List.mem_filter.mp z).2 rfl) upd_same
  have sb := m.2.trans u.2
  have q := u.1.putD (i := i) (v := .ref p) (d := .dct (ks.map (·.1)) (ks.map (·.2))) (.dct hp (fun x hx => sb.st (a.keys x hx)) a.kk rfl (a.vals.mono sb))
  have e : σ.set i (some (.ref p)) = σ := set_sameT a.at_
  rw [e] at q
  exact ⟨q, hp⟩
abbrev dvFrzE (i : Nat) (t : DE) : DvX := fun s ks R => ∀ X', t ⟨X', s.sl.set i (.dat (.dct (ks.map (·.1)) (ks.map (·.2)))), s.k⟩ fun d k => d.plain = true ∧ R d k
abbrev dvRetF (i : Nat) (t : DE) : DvS := fun DD s ks => ∀ X', t ⟨X', (s.sl.set i (.dat (.dct (ks.map (·.1)) (ks.map (·.2))))).map Sl.frz, s.k⟩ fun d k => DD.rt d k
variable {i : Nat}
theorem pe_dvfrz {e : Expr} {t : DE} (h : PE X e (LE c t)) : PE X e (LEv c i (dvFrzE i t)) :=
  (pe_thawV h).weak fun σ H Q ⟨p, L, ks, s, R, rp, dc, q, f⟩ => ⟨p, L, dc.obj, fun o => by
    obtain ⟨r1, hp⟩ := dc.show rp o
    refine ⟨_, _, r1, q _, fun d k ⟨hpl, hR⟩ v H' r2 a2 e2 => ?_⟩
    have hp2 := a2.sub _ _ hp
    have hp' : H' p = some (.ext (DvE p L (some o))) := wo_sub _ _ _ _ hp2
    have sb : Sub (c.hid s.X H) (c.hid s.X (upd H' p (.ext (DvE p L none)))) := fun a u e => by
      obtain ⟨n1, n2, n3⟩ := wo_all e
      have ap : a ≠ p := fun z => n1 (List.mem_append_right _ (z ▸ dc.mem))
      have v1 : c.hid (s.X.filter (fun a => decide (a ≠ p))) (upd H p (.ext (DvE p L (some o)))) a = some u := wo_of (fun z => n1 (List.mem_append.mpr ((List.mem_append.mp z).imp id fun q => (List.mem_filter.mp q).1))) (by rw [upd_ne ap]; exact n2) n3
      exact wo_of n1 (by rw [upd_ne ap]; exact wo_sub _ _ _ _ (a2.sub _ _ v1)) n3
    have ow : ∀ a ∈ s.X, (upd H' p (.ext (DvE p L none))) a = H a := fun a ha => by
      by_cases ap : a = p
      · rw [ap, upd_same]; exact dc.obj.symm
      · rw [upd_ne ap, a2.own a (List.mem_filter.mpr ⟨ha, decide_eq_true ap⟩), upd_ne ap]
    have tb2 : TbK H' (upd H' p (.ext (DvE p L none))) := dve_tb hp'
    refine ⟨hp', f d k hR v _ (rp.step (k := k) sb (fun a ha _ => ow a ha) (r2.m.eq (fun a ha _ => upd_ne fun z => rp.xm p dc.mem (z ▸ ha)) tb2) (r2.tb.trans tb2)) ⟨sb, ow⟩ ((rl_offD hp2 e2 hpl).mono fun a u e => ?_)⟩
    obtain ⟨n1, n2, n3⟩ := wo_all e
    obtain ⟨m1, m2, m3⟩ := wo_all n2
    have ap : a ≠ p := fun z => n1 (List.mem_singleton.mpr z)
    exact wo_of (fun z => m1 (List.mem_append.mpr ((List.mem_append.mp z).imp id fun q => List.mem_filter.mpr ⟨q, decide_eq_true ap⟩))) (by rw [upd_ne ap]; exact m2) n3⟩
theorem ps_dvretF {e : Expr} {t : DE} (h : PE X e (LE c t)) : PS X (.Return (some e) pos) (LDv c i (dvRetF i t)) :=
  (ps_ret (pe_lockV h)).weak fun D σ H ⟨p, L, ks, s, DD, rp, dc, q, f⟩ => ⟨p, L, dc.obj, fun o => by
    obtain ⟨r1, hp⟩ := dc.show rp o
    exact ⟨_, _, r1.frz, q c.X0, fun d k h v H1 r2 a2 e2 => f.rt d k v H1 r2.fin e2 h⟩⟩
end
abbrev dDvS0 (i : Nat) (body : DvS) : DS := fun DD s => i < s.sl.length ∧ ∀ p, p ∉ s.X → body { nx := fun s' _ => DD.nx s', rt := DD.rt, bk := fun s' _ => DD.bk s', ct := fun s' _ => DD.ct s' } ((s.own p s.k).put i .no) []
theorem psd_dvS0 {X : Cx} {c : C} (i : Nat) {x : PySem.Str} {px p2 p3 : Pos} {rest : List Stmt} {body : DvS} (hNd : X.N.Nodup) (hrest : PSs X rest (LDv c i body)) (hi : X.N[i]? = some x := by rfl) (hx : Loc X.env.scope x := by first | exact Or.inl rfl | exact Or.inr rfl)
    (hs : swapsWith (.Dict [] [] p2) (some (.Name x px)) p3.line X.env = pure false := by rfl) (fx : X.fn x = true ∨ X.env.scope.names.lookup x = some .local := by first | exact .inl rfl | exact .inr rfl) :
    PSs X (.Assign [.Name x px] (.Dict [] [] p2) p3 :: rest) (LS c (dDvS0 i body)) :=
  (pss_cons (ps_set hNd hi hx pe_newV hs fx) hrest).weak fun D σ H ⟨s, DD, rp, ⟨hil, q⟩, f⟩ => by
    intro p hp
    obtain ⟨n1, n2, n3, n4⟩ := rp.nofree hp
    have h := rp.hide (o := .ext (DvE p [] none)) hp
    have m2 := h.1.put (i := i) (v := V.ref p) (x := .no) trivial (fun _ _ z => nomatch z)
    have hl : i < σ.length := by rw [← rp.len]; exact hil
    have dc : DvAt c i p [] [] ((s.own p s.k).put i .no) (σ.set i (some (V.ref p))) (upd H p (.ext (DvE p [] none))) := ⟨by show (s.sl.set i .no)[i]? = _; rw [List.getElem?_set_self hil], by rw [List.getElem?_set_self hl], List.mem_cons_self, n3, upd_same, fun y hy => (nomatch hy), rfl, .nil⟩
    exact ⟨p, [], [], _, _, m2, dc, q p n1, ⟨fun s' σ' H' L' ks' r' b z q' => f.nx s' σ' H' r' (h.2.trans b) q', fun s' σ' H' L' ks' r' b z q' => f.bk s' σ' H' r' (h.2.trans b) q', fun s' σ' H' L' ks' r' b z q' => f.ct s' σ' H' r' (h.2.trans b) q', f.rt, fun _ _ _ _ _ _ _ z => z.elim⟩⟩
end DL
set_option autoImplicit false
set_option maxHeartbeats 1000000
namespace BW
open PySem L2 DL
open PySem.W (dataLe)
open TT (sm sm_congr)
def sp_sign_of : DSp := fun ds k R => ∃ n : Nat, ds = [.int n] ∧ R (.int (sgn n)) k
abbrev t_sign_of : DS := (dRet (dIf (dTru (dOp oAndB (dVar 0) (dC (.int 1)))) (dC (.int (-1))) (dC (.int 1))))
theorem r_sign_of (X : List Addr) (ds : List D) (k : Nat) (R : D → Nat → Prop) (h : sp_sign_of ds k R) : t_sign_of (En R) (St0 false 1 ds X k) := by
  obtain ⟨n, rfl, h⟩ := h
  refine fun X' => ⟨_, rfl, n, 1, rfl, rfl, _, rfl, ?_⟩
  have e : Builtin.bitAnd (n : Int) 1 = ((n % 2 : Nat) : Int) := by rw [PyProof.Rows.bitAnd_m1]; omega
  rw [e]
  unfold sgn at h
  by_cases q : n % 2 = 1
  · rw [if_pos q] at h
    rw [q]
    exact iteT h
  · rw [if_neg q] at h
    rw [show n % 2 = 0 by omega]
    exact iteF h
abbrev inc (c J : List Int) : Bool := J.all fun a => decide (a ∈ c)
def sp_parts_of : DSp := fun ds k R => ∃ c ks xs, ds = [tI c, .dct ks xs] ∧ ks.length ≤ 1000 ∧ (∀ J ∈ ks, J.length ≤ 1000) ∧ R (.lst ((ks.filter (inc c)).map tI)) k
abbrev t_parts_of : DS := (dRet (dFr (dLc (iKs (dVar 1)) (dgN 2) (dTru (dAll (dFr (dLc (iTp (dVar 2)) (dgN 3) dY (dOp oIn (dVar 3) (dVar 0)) [3])))) (dVar 2) [2])))
theorem all_id (f : Int → Bool) : ∀ l : List Int, (l.map f).all id = l.all f
  | [] => rfl
  | a :: l => by show (f a && _) = (f a && _); rw [all_id f l]
theorem flat_ints' (c : List Int) : (c.map D.int).all D.flat = true := List.all_eq_true.mpr fun d hd => by
  obtain ⟨a, _, rfl⟩ := List.mem_map.mp hd
  rfl
theorem r_parts_of (X : List Addr) (ds : List D) (k : Nat) (R : D → Nat → Prop) (h : sp_parts_of ds k R) : t_parts_of (En R) (St0 false 4 ds X k) := by
  obtain ⟨c, ks, xs, rfl, kl, jl, h⟩ := h
  have l5 : ∀ {n : Nat}, n ≤ 1000 → n ≤ lim := fun h => Nat.le_trans h (by decide)
  have lk : (ks.map tuI).length = ks.length := List.length_map ..
  refine fun X' => ⟨_, rfl, ks, xs, rfl, by rw [lk]; exact l5 kl, fun p hp => ⟨fun j acc k' => k' = k ∧ acc = ((ks.take j).filter (inc c)).map tI, ⟨rfl, rfl⟩, ?_, ?_⟩⟩
  · rintro j e acc k' he ⟨rfl, rfl⟩ _
    rw [List.getElem?_map] at he
    obtain ⟨J, hJ, rfl⟩ := Option.map_eq_some_iff.mp he
    have lJ := jl J (List.mem_of_getElem? hJ)
    have lm : (J.map D.int).length = J.length := List.length_map ..
    refine ⟨_, rfl, _, rfl, by rw [lm]; exact l5 lJ, fun p2 hp2 => ⟨fun i acc k2 => k2 = k' ∧ acc = ((J.take i).map fun a => decide (a ∈ c)).map D.bl, ⟨rfl, rfl⟩, ?_, ?_⟩⟩
    · rintro i e2 acc2 k2 he2 ⟨rfl, rfl⟩ _
      rw [List.getElem?_map] at he2
      obtain ⟨a, ha, rfl⟩ := Option.map_eq_some_iff.mp he2
      refine iteT ⟨_, rfl, _, rfl, ?_⟩
      refine ⟨rfl, _, rfl, flat_ints' c, ?_⟩
      refine ⟨rfl, ?_⟩
      rw [inV_mem, List.take_succ, ha, List.map_append, List.map_append]; rfl
    · rintro acc2 k2 ⟨rfl, rfl⟩ _
      rw [lm, List.take_length]
      refine ⟨_, rfl, _, rfl, ?_⟩
      rw [all_id]
      have tk : ks.take (j + 1) = ks.take j ++ [J] := by rw [List.take_succ, hJ]; rfl
      by_cases q : inc c J = true
      · have q' : (J.all fun a => decide (a ∈ c)) = true := q
        rw [q']
        refine iteT ⟨_, rfl, rfl, ?_⟩
        rw [tk, List.filter_append, List.filter_cons_of_pos q, List.map_append]; rfl
      · have q' : (J.all fun a => decide (a ∈ c)) = false := Bool.eq_false_iff.mpr q
        rw [q']
        refine iteF ⟨rfl, ?_⟩
        rw [tk, List.filter_append, List.filter_cons_of_neg q, List.map_append]
        exact (List.append_nil _).symm
  · rintro acc k' ⟨rfl, rfl⟩ _
    rw [lk, List.take_length]
    exact h
abbrev qL (T : Mat) (m : Nat) (c : List Int) : D := lI ((List.range (m + 1)).map (qs T c))
abbrev t_od1 : DS := (dIfS (dTB (dOp oEq (dLenN 0) (dC (.int 0)))) (dRet (dOp oAdd (dFr (dLs (dCons (dC (.int 1)) dNil))) (dOp oMul (dFr (dLs (dCons (dC (.int 0)) dNil))) (dVar 3)))) dNext)
abbrev t_od2 : DS := (dSet 4 (dFr (dLc (iLst (dCall sp_parts_of (dCons (dVar 0) (dCons (dVar 2) dNil)))) (dgN 8) dY (dTup (dCons (dVar 8) (dCons (dNeg (dCall sp_sign_of (dCons (dOp oSub (dLenN 0) (dLenN 8)) dNil))) dNil))) [8])))
abbrev t_od3 : DS := (dSet 7 (dSum (dFr (dLc (iLst (dVar 4)) (dgTup 2 (dgCons (dgN 8) (dgCons (dgN 9) dgNil))) dY (dOp oMul (dVar 9) (dOp oIx (dOp oIxK (dVar 2) (dVar 8)) (dVar 6))) [8, 9]))))
abbrev t_od4 : DS := (dIfS (dAnd (dTB (dOp (oNot oIs) (dVar 1) (dC .non))) (dTB (dOp oGe (dVar 6) (dLenN 1)))) (dAugI oAddI 7 (dOp oMul (dCall sp_sign_of (dCons (dLenN 0) dNil)) (dIxN 5 (dOp oSub (dVar 6) (dLenN 1))))) dNext)
abbrev t_od5 : DS := (dFor (iR1 (dOp oAdd (dVar 3) (dC (.int 1)))) (dgN 6) (dSeq t_od3
  (dSeq t_od4
  (dApp 5 (dVar 7)))))
abbrev t_one_divided : DS := (dSeq t_od1
  (dSeq t_od2
  (dSeq (dSetO 5 (dLs dNil))
  (dSeq t_od5
  (dRet (dVar 5))))))
def sp_one_divided : DSp := fun ds k R => ∃ T c ks m, ds = [tI c, lgD T c, .dct ks (ks.map (qL T m)), .int (m : Nat)] ∧ Tab T ∧ Wd T.length c ∧ c.length ≤ 6 ∧ (ks.filter (inc c)).Perm (prop c) ∧ ks.length ≤ 1000 ∧ (∀ J ∈ ks, J.length ≤ 1000) ∧ m ≤ 60 ∧ R (qL T m c) k
section
variable {T : Mat} {c : List Int} {ks : List (List Int)} {m i : Nat} {X : List Addr} {k : Nat} {p : Addr} {x1 x4 x5 x6 x7 x8 x9 : Sl} {DD : DEnds}
abbrev slOd (T : Mat) (c : List Int) (ks : List (List Int)) (m : Nat) (x4 x5 x6 x7 x8 x9 : Sl) : List Sl := [.dat (tI c), .dat (lgD T c), .dat (.dct ks (ks.map (qL T m))), .dat (.int (m : Nat)), x4, x5, x6, x7, x8, x9]
abbrev sgL (c : List Int) (P : List (List Int)) : D := .lst (P.map fun J => .tup [tI J, .int (-(sgn (c.length - J.length)))])
theorem r_od2 (hP : (ks.filter (inc c)).Perm (prop c)) (kl : ks.length ≤ 1000) (jl : ∀ J ∈ ks, J.length ≤ 1000) (fin : ∀ x8, DD.nx ⟨X, slOd T c ks m (.dat (sgL c (ks.filter (inc c)))) x5 x6 x7 x8 x9, k⟩) : t_od2 DD ⟨X, slOd T c ks m x4 x5 x6 x7 x8 x9, k⟩ := by
  have l5 : ∀ {n : Nat}, n ≤ 1000 → n ≤ lim := fun h => Nat.le_trans h (by decide)
  have lk : ((ks.filter (inc c)).map tI).length = (ks.filter (inc c)).length := List.length_map ..
  have fl := List.length_filter_le (inc c) ks
  refine ⟨_, rfl, _, rfl, c, ks, _, rfl, kl, jl, _, rfl, by rw [lk]; exact l5 (by omega), fun p hp => ⟨fun j acc k' => k' = k ∧ acc = ((ks.filter (inc c)).take j).map fun J => .tup [tI J, .int (-(sgn (c.length - J.length)))], ⟨rfl, rfl⟩, ?_, ?_⟩⟩
  · rintro j e acc k' he ⟨rfl, rfl⟩ _
    rw [List.getElem?_map] at he
    obtain ⟨J, hJ, rfl⟩ := Option.map_eq_some_iff.mp he
    have lt := prop_lt (hP.mem_iff.mp (List.mem_of_getElem? hJ))
    have lc : (c.map D.int).length = c.length := List.length_map ..
    have lj : (J.map D.int).length = J.length := List.length_map ..
    refine iteT ⟨_, rfl, _, rfl, _, rfl, c.length - J.length, ?_, _, rfl, ?_⟩
    · rw [lc, lj]
      rw [show ((c.length : Int) - (J.length : Int)) = ((c.length - J.length : Nat) : Int) by omega]
    · refine ⟨by show 2 ≤ lim; decide, rfl, ?_⟩
      rw [List.take_succ, hJ, List.map_append]; rfl
  · rintro acc k' ⟨rfl, rfl⟩ _
    rw [lk, List.take_length]
    exact fin _
theorem zip_map {f : List Int → D} {J : List Int} : ∀ {ks : List (List Int)}, J ∈ ks → (J, f J) ∈ ks.zip (ks.map f)
  | a :: ks, h => by
    rcases List.mem_cons.mp h with rfl | h
    · exact List.mem_cons_self
    · exact List.mem_cons_of_mem _ (zip_map h)
theorem at_qL {J : List Int} (h : i ≤ m) : atI (((List.range (m + 1)).map (qs T J)).map D.int) ((i : Nat) : Int) = some (.int (qs T J i)) := atI_nat (by
  rw [List.getElem?_map, List.getElem?_map, List.getElem?_range (by omega)]; rfl)
theorem r_od3 (hi : i ≤ m) (fl : (ks.filter (inc c)).length ≤ 1000) (fin : ∀ x8 x9, DD.nx ⟨X, slOd T c ks m (.dat (sgL c (ks.filter (inc c)))) x5 (.dat (.int (i : Nat))) (.dat (.int (((ks.filter (inc c)).map fun J => -(sgn (c.length - J.length)) * qs T J i).sum))) x8 x9, k⟩) : t_od3 DD ⟨X, slOd T c ks m (.dat (sgL c (ks.filter (inc c)))) x5 (.dat (.int (i : Nat))) x7 x8 x9, k⟩ := by
  have l5 : ∀ {n : Nat}, n ≤ 1000 → n ≤ lim := fun h => Nat.le_trans h (by decide)
  have lk : ((ks.filter (inc c)).map fun J => D.tup [tI J, .int (-(sgn (c.length - J.length)))]).length = (ks.filter (inc c)).length := List.length_map ..
  refine ⟨_, rfl, _, rfl, by rw [lk]; exact l5 fl, fun p hp => ⟨fun j acc k' => k' = k ∧ acc = (((ks.filter (inc c)).take j).map fun J => -(sgn (c.length - J.length)) * qs T J i).map D.int, ⟨rfl, rfl⟩, ?_, ?_⟩⟩
  · rintro j e acc k' he ⟨rfl, rfl⟩ _
    rw [List.getElem?_map] at he
    obtain ⟨J, hJ, rfl⟩ := Option.map_eq_some_iff.mp he
    have hm := (List.mem_filter.mp (List.mem_of_getElem? hJ)).1
    refine ⟨rfl, rfl, iteT ⟨_, rfl, _, rfl, _, rfl, _, _, J, _, rfl, rfl, zip_map hm, _, rfl, _, _, rfl, at_qL hi, ?_⟩⟩
    refine ⟨.inl ?_, rfl, ?_⟩
    · rcases sgn_one (c.length - J.length) with e | e <;> rw [e] <;> exact ⟨by decide, by decide⟩
    · rw [List.take_succ, hJ, List.map_append, List.map_append]; rfl
  · rintro acc k' ⟨rfl, rfl⟩ _
    rw [lk, List.take_length]
    exact ⟨_, rfl, fin _ _⟩
abbrev qA (T : Mat) (c : List Int) (i : Nat) : List D := ((List.range i).map (qs T c)).map D.int
theorem r_od4 {z : Int} (ht : Tab T) (hc : Wd T.length c) (ne : c ≠ []) (fin : DD.nx ⟨X, slOd T c ks m x4 (.own p (qA T c i)) (.dat (.int (i : Nat))) (.dat (.int (z + dwn T c i))) x8 x9, k⟩) : t_od4 DD ⟨X, slOd T c ks m x4 (.own p (qA T c i)) (.dat (.int (i : Nat))) (.dat (.int z)) x8 x9, k⟩ := by
  have hd : dwn T c i = match lgN T c with | some N => if N ≤ i then sgn c.length * qs T c (i - N) else 0 | none => 0 := rfl
  have lgn : lgN T c = (lgF T c 61 (one T) []).map List.length := rfl
  have lgd : lgD T c = match lgF T c 61 (one T) [] with | some u => tI u | none => .non := rfl
  rw [hd] at fin
  have pos : ∀ N, lgN T c = some N → 1 ≤ N ∧ N ≤ 60 := fun N => lgN_pos ht hc ne
  have lc : (c.map D.int).length = c.length := List.length_map ..
  unfold slOd at *
  generalize lgN T c = gN at *
  generalize lgD T c = gD at *
  cases e : lgF T c 61 (one T) [] with
  | none =>
    rw [e] at lgn lgd
    subst lgn lgd
    have fin : DD.nx ⟨X, [.dat (tI c), .dat .non, .dat (.dct ks (ks.map (qL T m))), .dat (.int (m : Nat)), x4, .own p (qA T c i), .dat (.int (i : Nat)), .dat (.int (z + 0)), x8, x9], k⟩ := fin
    rw [Int.add_zero] at fin
    exact ⟨_, rfl, _, rfl, iteF (iteF fin)⟩
  | some u =>
    rw [e] at lgn lgd
    subst lgn lgd
    have lu : (u.map D.int).length = u.length := List.length_map ..
    obtain ⟨u1, _⟩ := pos _ rfl
    have fin : DD.nx ⟨X, [.dat (tI c), .dat (tI u), .dat (.dct ks (ks.map (qL T m))), .dat (.int (m : Nat)), x4, .own p (qA T c i), .dat (.int (i : Nat)), .dat (.int (z + if u.length ≤ i then sgn c.length * qs T c (i - u.length) else 0)), x8, x9], k⟩ := fin
    refine ⟨_, rfl, _, rfl, iteT ⟨_, rfl, _, rfl, _, rfl, ?_⟩⟩
    rw [lu]
    by_cases q : u.length ≤ i
    · rw [if_pos q] at fin
      rw [decide_eq_true (by omega)]
      refine iteT ⟨_, rfl, _, rfl, c.length, by rw [lc], _, rfl, _, rfl, _, rfl, _, .int (qs T c (i - u.length)), rfl, ?_, ?_⟩
      · rw [lu]
        have : atI (qA T c i) (((i - u.length : Nat)) : Int) = some (.int (qs T c (i - u.length))) := atI_nat (by
          rw [List.getElem?_map, List.getElem?_map, List.getElem?_range (by omega)]; rfl)
        rw [show ((i : Nat) : Int) - (u.length : Int) = ((i - u.length : Nat) : Int) by omega]
        exact this
      · refine ⟨.inl ?_, fin⟩
        rcases sgn_one c.length with e | e <;> rw [e] <;> exact ⟨by decide, by decide⟩
    · rw [if_neg q, Int.add_zero] at fin
      rw [decide_eq_false (by omega)]
      exact iteF fin
end
theorem ones_q (T : Mat) : ∀ m, [D.int 1] ++ (List.replicate m [D.int 0]).flatten = ((List.range (m + 1)).map (qs T [])).map D.int
  | 0 => rfl
  | m + 1 => by
    rw [List.range_succ (n := m + 1), List.map_append, List.map_append, ← ones_q T m, List.replicate_succ', List.flatten_append, ← List.append_assoc]
    show _ ++ [D.int 0] = _ ++ [D.int (qs T [] (m + 1))]
    rw [qs_none]
theorem r_one_divided (X : List Addr) (ds : List D) (k : Nat) (R : D → Nat → Prop) (h : sp_one_divided ds k R) : t_one_divided (En R) (St0 false 10 ds X k) := by
  obtain ⟨T, c, ks, m, rfl, ht, hc, cl, hP, kl, jl, m60, h⟩ := h
  have lc : (c.map D.int).length = c.length := List.length_map ..
  have fl := List.length_filter_le (inc c) ks
  refine ⟨_, rfl, rfl, rfl, _, rfl, ?_⟩
  rw [eqvI, lc]
  by_cases ne : c = []
  · subst ne
    refine iteT fun X' => ⟨by show 1 ≤ lim; decide, by show 1 ≤ lim; decide, _, rfl, ⟨by omega, by omega, ?_, ?_⟩⟩
    · show 1 * (m : Int).toNat ≤ lim
      have : (1000 : Nat) ≤ lim := by decide
      omega
    · refine ⟨?_, ?_⟩
      · show 1 + (List.replicate ((m : Nat) : Int).toNat [D.int 0]).flatten.length ≤ lim
        have e : (List.replicate ((m : Nat) : Int).toNat [D.int 0]).flatten.length = m := by simp
        rw [e]
        have : (1000 : Nat) ≤ lim := by decide
        omega
      · have e : [D.int 1] ++ (List.replicate ((m : Nat) : Int).toNat [D.int 0]).flatten = ((List.range (m + 1)).map (qs T [])).map D.int := by
          rw [Int.toNat_natCast]
          exact ones_q T m
        show R (.lst _) k
        rw [e]
        exact h
  · have c0 : c.length ≠ 0 := fun z => ne (List.length_eq_zero_iff.mp z)
    rw [decide_eq_false (by omega)]
    refine iteF (r_od2 (T := T) hP kl jl fun y8 => ⟨by show 0 ≤ lim; decide, fun p hp => ?_⟩)
    have en : ((m : Int) + 1 - 0).toNat = m + 1 := by omega
    have rl : (rngD 0 ((m : Int) + 1).toNat).length = m + 1 := by show (List.map _ (List.range _)).length = _; rw [List.length_map, List.length_range]; omega
    refine ⟨_, rfl, _, rfl, by omega, by omega, fun i s' => i ≤ m + 1 ∧ ∃ x6 x7 x8 x9, s' = ⟨p :: X, slOd T c ks m (.dat (sgL c (ks.filter (inc c)))) (.own p (qA T c i)) x6 x7 x8 x9, k⟩, ⟨Nat.zero_le _, _, _, _, _, rfl⟩, ?_, ?_⟩
    · rintro i d s' hd ⟨hi, x6, x7, x8, x9, rfl⟩
      obtain ⟨hj, rfl⟩ := rngD_at hd
      have hj : i < m + 1 := by omega
      rw [Int.zero_add]
      refine r_od3 (by omega) (by omega) fun y8 y9 => r_od4 ht hc ne ?_
      have e : ((ks.filter (inc c)).map fun J => -(sgn (c.length - J.length)) * qs T J i).sum + dwn T c i = qs T c i := by
        rw [sum_perm (hP.map _)]
        exact (qs_rec ht hc (by omega)).symm
      rw [e]
      refine ⟨p, _, rfl, _, rfl, ?_, ?_⟩
      · show (((List.range i).map (qs T c)).map D.int).length < lim
        rw [List.length_map, List.length_map, List.length_range]
        have : (1000 : Nat) ≤ lim := by decide
        omega
      · refine ⟨by omega, .dat (.int (i : Nat)), .dat (.int (qs T c i)), y8, y9, ?_⟩
        have : qA T c i ++ [D.int (qs T c i)] = qA T c (i + 1) := by
          unfold qA
          rw [List.range_succ, List.map_append, List.map_append]; rfl
        rw [← this]; rfl
    · rintro s' ⟨hi, x6, x7, x8, x9, rfl⟩
      rw [rl]
      exact fun X' => ⟨_, rfl, h⟩
end BW
set_option maxHeartbeats 1000000
namespace BW
open PySem L2 DL
def nw (T : Mat) (c F : List Int) : List Int := c.filter fun y => !decide (y ∈ F) && F.any fun x => adj T x y
end BW
set_option maxHeartbeats 1000000
namespace BW
open PySem L2 DL
theorem asc_ext {c d : List Int} (hc : c.Pairwise (· < ·)) (hd : d.Pairwise (· < ·)) (h : ∀ x, x ∈ c ↔ x ∈ d) : c = d :=
  List.Perm.eq_of_pairwise (le := fun a b : Int => a ≤ b) (fun a b _ _ h1 h2 => Int.le_antisymm h1 h2) (hc.imp fun h => Int.le_of_lt h) (hd.imp fun h => Int.le_of_lt h) ((List.perm_ext_iff_of_nodup (asc_nodup hc) (asc_nodup hd)).mpr h)
theorem chs_asc : ∀ (n : Nat), ∀ c ∈ chs n, c.Pairwise (· < ·)
  | 0, c, h => by rw [List.mem_singleton.mp h]; exact .nil
  | n + 1, c, h => by
    rcases List.mem_append.mp h with h | h
    · exact chs_asc n c h
    · obtain ⟨d, hd, rfl⟩ := List.mem_map.mp h
      refine List.pairwise_append.mpr ⟨chs_asc n d hd, List.pairwise_singleton _ _, fun x hx y hy => ?_⟩
      have := (chs_wd n d hd).1 x hx
      rw [List.mem_singleton.mp hy]
      omega
theorem mem_chs : ∀ (n : Nat) (c : List Int), Wd n c → c.Pairwise (· < ·) → c ∈ chs n
  | 0, c, hw, _ => by
    cases c with
    | nil => exact List.mem_singleton.mpr rfl
    | cons a c => have := hw a List.mem_cons_self; omega
  | n + 1, c, hw, hc => by
    by_cases q : (n : Int) + 1 ∈ c
    · refine List.mem_append_right _ (List.mem_map.mpr ⟨c.filter fun x => decide (x ≤ n), mem_chs n _ (fun x hx => ?_) (hc.filter _), ?_⟩)
      · obtain ⟨h1, h2⟩ := List.mem_filter.mp hx
        have := hw x h1
        have := of_decide_eq_true h2
        omega
      · refine asc_ext (List.pairwise_append.mpr ⟨hc.filter _, List.pairwise_singleton _ _, fun x hx y hy => ?_⟩) hc fun x => ?_
        · have := of_decide_eq_true (List.mem_filter.mp hx).2
          rw [List.mem_singleton.mp hy]; omega
        · rw [List.mem_append, List.mem_filter, List.mem_singleton]
          constructor
          · rintro (h | rfl)
            · exact h.1
            · exact q
          · intro h
            have := hw x h
            by_cases e : x ≤ (n : Int)
            · exact .inl ⟨h, decide_eq_true e⟩
            · exact .inr (by omega)
    · refine List.mem_append_left _ (mem_chs n c (fun x hx => ?_) hc)
      have := hw x hx
      have : x ≠ (n : Int) + 1 := fun e => q (e ▸ hx)
      omega
end BW
set_option autoImplicit false
set_option maxHeartbeats 1000000
namespace BW
open PySem L2 DL
open PySem.W (dataLe)
open TT (sm sm_congr)
def sp_inverse : DSp := fun ds k R => ∃ T c m, ds = [qL T m c] ∧ Tab T ∧ Wd T.length c ∧ c.length ≤ 6 ∧ m ≤ 60 ∧ R (lI ((List.range (m + 1)).map (nc T c))) k
abbrev t_in1 : DS := (dFor (iR2 (dC (.int 1)) (dLenN 0)) (dgN 2) (dApp 1 (dNeg (dSum (dFr (dLc (iR1 (dVar 2)) (dgN 3) dY (dOp oMul (dIxN 0 (dOp oSub (dVar 2) (dVar 3))) (dIxN 1 (dVar 3))) [3]))))))
abbrev t_inverse : DS := (dSeq (dSetO 1 (dLs (dCons (dC (.int 1)) dNil)))
  (dSeq t_in1
  (dRet (dVar 1))))
abbrev ncA (T : Mat) (c : List Int) (i : Nat) : List D := ((List.range i).map (nc T c)).map D.int
theorem at_ncA {T : Mat} {c : List Int} {i l : Nat} (h : l < i) : atI (ncA T c i) ((l : Nat) : Int) = some (.int (nc T c l)) := atI_nat (by
  rw [List.getElem?_map, List.getElem?_map, List.getElem?_range h]; rfl)
theorem r_inverse (X : List Addr) (ds : List D) (k : Nat) (R : D → Nat → Prop) (h : sp_inverse ds k R) : t_inverse (En R) (St0 false 4 ds X k) := by
  obtain ⟨T, c, m, rfl, ht, hc, cl, m60, h⟩ := h
  have lm : (((List.range (m + 1)).map (qs T c)).map D.int).length = m + 1 := by rw [List.length_map, List.length_map, List.length_range]
  refine ⟨by show 1 ≤ lim; decide, fun p hp => ?_⟩
  refine ⟨_, rfl, _, _, rfl, rfl, ?_, ?_⟩
  · rw [lm]; omega
  · rw [lm, show (((m + 1 : Nat) : Int) - 1).toNat = m by omega]
    refine ⟨fun i s' => i ≤ m ∧ ∃ x2 x3, s' = ⟨p :: X, [.dat (qL T m c), .own p (ncA T c (i + 1)), x2, x3], k⟩, ⟨Nat.zero_le _, _, _, rfl⟩, ?_, ?_⟩
    · rintro i d s' hd ⟨hi, x2, x3, rfl⟩
      obtain ⟨hj, rfl⟩ := rngD_at hd
      refine ⟨p, _, rfl, ?_⟩
      have e1 : (1 : Int) + (i : Int) = ((i + 1 : Nat) : Int) := by omega
      rw [e1]
      refine ⟨_, rfl, _, rfl, by omega, by omega, ?_, fun p2 hp2 => ⟨fun j acc k' => k' = k ∧ acc = ((List.range j).map fun l => qs T c (i + 1 - l) * nc T c l).map D.int, ⟨rfl, rfl⟩, ?_, ?_⟩⟩
      · show (List.map _ (List.range _)).length ≤ lim
        rw [List.length_map, List.length_range]
        have : (1000 : Nat) ≤ lim := by decide
        omega
      · rintro j e acc k' he ⟨rfl, rfl⟩ _
        obtain ⟨hj2, rfl⟩ := rngD_at he
        have hj2 : j < i + 1 := by omega
        rw [Int.zero_add]
        refine iteT ⟨_, rfl, _, rfl, _, rfl, _, .int (qs T c (i + 1 - j)), rfl, ?_, _, rfl, _, rfl, _, .int (nc T c j), rfl, at_ncA hj2, .inl (qs_small ht hc cl (by omega)), rfl, ?_⟩
        · rw [show ((i + 1 : Nat) : Int) - (j : Int) = ((i + 1 - j : Nat) : Int) by omega]
          exact at_qL (by omega)
        · rw [List.range_succ, List.map_append, List.map_append]; rfl
      · rintro acc k' ⟨rfl, rfl⟩ _
        have rl : (rngD 0 (((i + 1 : Nat) : Int)).toNat).length = i + 1 := by show (List.map _ (List.range _)).length = _; rw [List.length_map, List.length_range]; omega
        rw [rl]
        refine ⟨_, rfl, _, rfl, ?_, ?_⟩
        · show (ncA T c (i + 1)).length < lim
          rw [List.length_map, List.length_map, List.length_range]
          have : (1000 : Nat) ≤ lim := by decide
          omega
        · refine ⟨by omega, .dat (.int ((i + 1 : Nat) : Int)), x3, ?_⟩
          have : ncA T c (i + 1) ++ [D.int (-(((List.range (i + 1)).map fun l => qs T c (i + 1 - l) * nc T c l).sum))] = ncA T c (i + 1 + 1) := by
            unfold ncA
            rw [List.range_succ (n := i + 1), List.map_append, List.map_append, sum_rng, ← nc_rec]; rfl
          rw [← this]; rfl
    · rintro s' ⟨hi, x2, x3, rfl⟩
      have rl : (rngD 1 m).length = m := by show (List.map _ (List.range _)).length = _; rw [List.length_map, List.length_range]
      rw [rl]
      exact fun X' => ⟨_, rfl, h⟩
def sp_check_number : DSp := fun ds k R => ∃ v b, ds = [.int v, .int b] ∧ 0 ≤ v ∧ v ≤ b ∧ R .non k
def sp_counts (BC : Addr) : DSp := fun ds k R => ∃ T m, ds = [bnd BC T, .int (m : Nat)] ∧ Tab T ∧ m ≤ 60 ∧ R (.tup (ncA T (ltrs T.length) (m + 1))) k
abbrev tA_counts (BC : Addr) (K : PySem.W.Frag) : DS := (dSeq (dDrop (dCall sp_check_number (dCons (dVar 1) (dCons (dC (.int (60))) dNil))))
  (dDvS0 2
  (dvSeq (dvFor 2 (iTp (dCallT (sp_choices_of BC) (dCons (dVar 0) dNil))) (dgN 3) (dvPut (dvFrzE 2 (dCall sp_one_divided (dCons (dVar 3) (dCons (dCall (sp_longest_within BC) (dCons (dVar 0) (dCons (dVar 3) dNil))) (dCons (dVar 2) (dCons (dVar 1) dNil)))))) (dVar 3)))
  (dvRetF 2 (dTupOf (dCall sp_inverse (dCons (dOp oIxK (dVar 2) (dCall (sp_all_letters BC) (dCons (dVar 0) dNil))) dNil)))))))
abbrev chF (n : Nat) : List (List Int) := srtW (chs n)
theorem chs_nd : ∀ n, (chs n).Nodup
  | 0 => List.nodup_cons.mpr ⟨by simp, List.nodup_nil⟩
  | n + 1 => by
    refine List.nodup_append.mpr ⟨chs_nd n, List.pairwise_map.mpr ((chs_nd n).imp fun h e => h (List.append_cancel_right e)), fun x hx y hy e => ?_⟩
    obtain ⟨d, hd, rfl⟩ := List.mem_map.mp hy
    have := (chs_wd n x hx).1 ((n : Int) + 1) (by rw [e]; exact List.mem_append_right _ (List.mem_singleton.mpr rfl))
    omega
theorem chF_nd (n : Nat) : (chF n).Nodup := (List.mergeSort_perm _ _).nodup_iff.mpr (chs_nd n)
theorem chF_D (n : Nat) : chD n = (chF n).map tI := srt_prog _
theorem chF_len {n : Nat} (h : n ≤ 6) : (chF n).length ≤ 64 := by
  unfold chF srtW
  rw [List.length_mergeSort, chs_len]
  exact pow6 h
theorem chF_ok {n : Nat} {c : List Int} (h : c ∈ chF n) : Wd n c ∧ c.length ≤ n ∧ c.Pairwise (· < ·) := by
  have h := srt_mem.mp h
  exact ⟨(chs_wd n c h).1, (chs_wd n c h).2, chs_asc n c h⟩
theorem nd_inj {α : Type} {l : List α} (nd : l.Nodup) {i j : Nat} (hi : i < l.length) (hj : j < l.length) (e : l[i] = l[j]) : i = j := by
  have q := List.pairwise_iff_getElem.mp nd
  rcases Nat.lt_trichotomy i j with z | z | z
  · exact absurd e (q i j hi hj z)
  · exact z
  · exact absurd e.symm (q j i hj hi z)
theorem chF_ahead {n j : Nat} {c : List Int} (h : (chF n)[j]? = some c) : (((chF n).take j).filter (inc c)).Perm (prop c) := by
  have hm := List.mem_of_getElem? h
  obtain ⟨w, l, asc⟩ := chF_ok hm
  have nd := chF_nd n
  obtain ⟨hj, ej⟩ := List.getElem?_eq_some_iff.mp h
  refine (List.perm_ext_iff_of_nodup ((nd.sublist (List.take_sublist _ _)).filter _) ((subl_nodup asc).sublist (List.dropLast_sublist _))).mpr fun J => ?_
  rw [List.mem_filter]
  constructor
  · rintro ⟨h1, h2⟩
    have hJ := List.take_subset _ _ h1
    have hs : J ∈ subl c := (mem_subl asc).mpr ⟨(chF_ok hJ).2.2, fun a ha => of_decide_eq_true (List.all_eq_true.mp h2 a ha)⟩
    rw [subl_last] at hs
    rcases List.mem_append.mp hs with hs | hs
    · exact hs
    · rw [List.mem_singleton.mp hs] at h1
      obtain ⟨i, hi, e⟩ := List.getElem_of_mem h1
      rw [List.length_take] at hi
      rw [List.getElem_take] at e
      have := nd_inj nd _ hj (e.trans ej.symm)
      omega
  · intro hp
    have hs := prop_sub hp
    have lt := prop_lt hp
    obtain ⟨a1, a2⟩ := (mem_subl asc).mp hs
    have hJ : J ∈ chF n := srt_mem.mpr (mem_chs n J (fun a ha => w a (a2 a ha)) a1)
    refine ⟨?_, List.all_eq_true.mpr fun a ha => decide_eq_true (a2 a ha)⟩
    obtain ⟨i, hi, e⟩ := List.getElem_of_mem hJ
    have ij : i < j := by
      refine Classical.byContradiction fun q => ?_
      by_cases z : i = j
      · subst z
        rw [ej] at e
        rw [e] at lt
        omega
      · have := List.pairwise_iff_getElem.mp (srt_pw (chs n)) j i hj hi (by omega)
        rw [show (srtW (chs n))[j] = c from ej, show (srtW (chs n))[i] = J from e, leW_iff] at this
        omega
    rw [← e, ← List.getElem_take (j := j) (h := by rw [List.length_take]; omega)]
    exact List.getElem_mem _
abbrev kvQ (T : Mat) (m : Nat) (L : List (List Int)) : List Kv := L.map fun J => (J, qL T m J)
theorem kvQ_1 (T : Mat) (m : Nat) (L : List (List Int)) : (kvQ T m L).map (·.1) = L := by
  rw [List.map_map]; exact List.map_id _
theorem kvQ_2 (T : Mat) (m : Nat) (L : List (List Int)) : (kvQ T m L).map (·.2) = L.map (qL T m) := by
  rw [List.map_map]; rfl
theorem qL_plain (T : Mat) (m : Nat) (c : List Int) : (qL T m c).plain = true := plain_ints _
theorem rA_counts (BC : Addr) (K : PySem.W.Frag) (X : List Addr) (ds : List D) (k : Nat) (R : D → Nat → Prop) (h : sp_counts BC ds k R) : tA_counts BC K (En R) (St0 false 4 ds X k) := by
  obtain ⟨T, m, rfl, ht, m60, h⟩ := h
  have hT := ht.hi
  refine ⟨_, rfl, _, 60, rfl, by omega, by omega, ?_⟩
  refine ⟨by show 2 < 4; decide, fun p hp => ?_⟩
  refine ⟨_, rfl, T, rfl, ht, _, rfl, ?_⟩
  rw [chF_D]
  have cl := chF_len hT
  refine ⟨fun j s' ks' => (∃ x3 X', s' = ⟨X', [.dat (bnd BC T), .dat (.int (m : Nat)), .no, x3], k⟩) ∧ ks' = kvQ T m ((chF T.length).take j), ⟨⟨_, _, rfl⟩, rfl⟩, ?_, ?_⟩
  · rintro j d s' ks' hd ⟨⟨x3, X', rfl⟩, rfl⟩
    rw [List.getElem?_map] at hd
    obtain ⟨c, hc, rfl⟩ := Option.map_eq_some_iff.mp hd
    have hm := List.mem_of_getElem? hc
    obtain ⟨w, l, asc⟩ := chF_ok hm
    have lt := List.length_take_le' j (chF T.length)
    refine ⟨rfl, fun X2 => ?_⟩
    rw [kvQ_1, kvQ_2]
    refine ⟨_, rfl, _, rfl, _, rfl, T, c, rfl, ht, w, by omega, _, rfl, _, rfl, T, c, (chF T.length).take j, m, rfl, ht, w, by omega, chF_ahead hc, by omega, fun J hJ => ?_, m60, qL_plain T m c, ?_⟩
    · have := (chF_ok (List.take_subset _ _ hJ)).2.1
      omega
    · refine ⟨_, rfl, c, rfl, ?_, ⟨_, _, rfl⟩, ?_⟩
      · rw [List.length_map]; omega
      · unfold DL.putK
        rw [kvQ_1, if_neg]
        · unfold kvQ
          rw [List.take_succ, hc, List.map_append]; rfl
        · intro h1
          obtain ⟨i, hi, e⟩ := List.getElem_of_mem h1
          rw [List.length_take] at hi
          rw [List.getElem_take] at e
          obtain ⟨hj, ej⟩ := List.getElem?_eq_some_iff.mp hc
          have := nd_inj (chF_nd T.length) _ hj (e.trans ej.symm)
          omega
  · rintro s' ks' ⟨⟨x3, X', rfl⟩, rfl⟩
    rw [List.length_map, List.take_length]
    intro X2
    rw [kvQ_1, kvQ_2]
    have hl : ltrs T.length ∈ chF T.length := srt_mem.mpr (mem_chs _ _ (fun a ha => ltrs_mem.mp ha) (ltrs_asc _))
    have ll : (ltrs T.length).length ≤ 6 := by unfold ltrs; rw [List.length_map, List.length_range]; exact hT
    refine ⟨_, rfl, _, rfl, T, rfl, ht, _, _, ltrs T.length, _, rfl, rfl, zip_map hl, T, ltrs T.length, m, rfl, ht, fun a ha => ltrs_mem.mp ha, ll, m60, _, rfl, h⟩
def t_counts (BC : Addr) (K : PySem.W.Frag) : DS := tA_counts BC K
theorem r_counts (BC : Addr) (K : PySem.W.Frag) (X : List Addr) (ds : List D) (k : Nat) (R : D → Nat → Prop) (h : sp_counts BC ds k R) : t_counts BC K (En R) (St0 false 4 ds X k) := rA_counts BC K X ds k R h
end BW
set_option autoImplicit false
set_option maxHeartbeats 1000000
set_option autoImplicit false
set_option maxHeartbeats 1000000
namespace BW
open PySem L2 DL
open TT (sm sm_congr)
def stepQ (P : List (Int × List Int)) (s : Int) (N : Option Nat) (k : Nat) (l : List Int) : Int := (P.map fun x => x.1 * x.2.getD k 0).sum + match N with
  | some N => if N ≤ k then s * l.getD (k - N) 0 else 0
  | none => 0
def oneL (P : List (Int × List Int)) (s : Int) (N : Option Nat) : Nat → List Int
  | 0 => [stepQ P s N 0 []]
  | k + 1 => (fun l => l ++ [stepQ P s N (k + 1) l]) (oneL P s N k)
def qTab (T : Mat) (m : Nat) : Nat → List Int → List Int
  | 0, _ => 1 :: List.replicate m 0
  | n + 1, c => match c with
    | [] => 1 :: List.replicate m 0
    | a :: l => oneL ((prop (a :: l)).map fun J => (-(sgn ((a :: l).length - J.length)), qTab T m n J)) (sgn (a :: l).length) (lgN T (a :: l)) m
def invF (q : List Int) : Nat → List Int
  | 0 => [1]
  | k + 1 => (fun L => L ++ [-(((List.range (k + 1)).map fun l => q.getD (k + 1 - l) 0 * L.getD l 0).sum)]) (invF q k)
def ncV (T : Mat) (m : Nat) : List Int := invF (qTab T m T.length (ltrs T.length)) m
theorem rg_getD (f : Nat → Int) {n i : Nat} (h : i < n) : ((List.range n).map f).getD i 0 = f i := by
  rw [List.getD_eq_getElem?_getD, List.getElem?_map, List.getElem?_range h]; rfl
section
variable {T : Mat}
theorem step_ok (ht : Tab T) {c : List Int} (hc : Wd T.length c) (ne : c ≠ []) {m k : Nat} (hk : k ≤ m) (m60 : m ≤ 60) : stepQ ((prop c).map fun J => (-(sgn (c.length - J.length)), (List.range (m + 1)).map (qs T J))) (sgn c.length) (lgN T c) k ((List.range k).map (qs T c)) = qs T c k := by
  rw [qs_rec ht hc (by omega)]
  unfold stepQ dwn
  rw [List.map_map]
  have e1 : (prop c).map ((fun x : Int × List Int => x.1 * x.2.getD k 0) ∘ fun J => (-(sgn (c.length - J.length)), (List.range (m + 1)).map (qs T J))) = (prop c).map fun J => -(sgn (c.length - J.length)) * qs T J k := List.map_congr_left fun J _ => by
    show _ * (List.map (qs T J) (List.range (m + 1))).getD k 0 = _
    rw [rg_getD _ (by omega)]
  rw [e1]
  congr 1
  cases eN : lgN T c with
  | none => rfl
  | some N =>
    have np := (lgN_pos ht hc ne eN).1
    show (if N ≤ k then _ else _) = (if N ≤ k then _ else _)
    by_cases q : N ≤ k
    · rw [if_pos q, if_pos q, rg_getD _ (by omega)]
    · rw [if_neg q, if_neg q]
theorem one_ok (ht : Tab T) {c : List Int} (hc : Wd T.length c) (ne : c ≠ []) {m : Nat} (m60 : m ≤ 60) : ∀ k, k ≤ m → oneL ((prop c).map fun J => (-(sgn (c.length - J.length)), (List.range (m + 1)).map (qs T J))) (sgn c.length) (lgN T c) k = (List.range (k + 1)).map (qs T c)
  | 0, hk => by
    show [stepQ _ _ _ 0 ((List.range 0).map (qs T c))] = [qs T c 0]
    rw [step_ok ht hc ne hk m60]
  | k + 1, hk => by
    show (oneL _ _ _ k) ++ [stepQ _ _ _ (k + 1) (oneL _ _ _ k)] = _
    rw [one_ok ht hc ne m60 k (by omega), step_ok ht hc ne hk m60, List.range_succ (n := k + 1), List.map_append]; rfl
theorem ones_ok : ∀ m, 1 :: List.replicate m 0 = (List.range (m + 1)).map (qs T [])
  | 0 => rfl
  | m + 1 => by
    rw [List.range_succ (n := m + 1), List.map_append, ← ones_ok m, List.replicate_succ']
    show 1 :: (_ ++ [0]) = (1 :: _) ++ [qs T [] (m + 1)]
    rw [qs_none]; rfl
theorem qTab_ok (ht : Tab T) {m : Nat} (m60 : m ≤ 60) : ∀ (n : Nat) {c : List Int}, c.length ≤ n → Wd T.length c → qTab T m n c = (List.range (m + 1)).map (qs T c)
  | 0, c, hl, hc => by
    rw [List.length_eq_zero_iff.mp (Nat.le_zero.mp hl)]
    exact ones_ok m
  | n + 1, c, hl, hc => by
    cases c with
    | nil => exact ones_ok m
    | cons a l =>
      show oneL ((prop (a :: l)).map fun J => (-(sgn ((a :: l).length - J.length)), qTab T m n J)) (sgn (a :: l).length) (lgN T (a :: l)) m = _
      have e : ((prop (a :: l)).map fun J => (-(sgn ((a :: l).length - J.length)), qTab T m n J)) = (prop (a :: l)).map fun J => (-(sgn ((a :: l).length - J.length)), (List.range (m + 1)).map (qs T J)) := List.map_congr_left fun J hJ => by
        have := prop_lt hJ
        rw [qTab_ok ht m60 n (by omega) fun x hx => hc x (subl_sub (prop_sub hJ) x hx)]
      rw [e]
      exact one_ok ht hc (List.cons_ne_nil _ _) m60 m (Nat.le_refl _)
theorem invF_ok {c : List Int} {m : Nat} : ∀ k, k ≤ m → invF ((List.range (m + 1)).map (qs T c)) k = (List.range (k + 1)).map (nc T c)
  | 0, _ => rfl
  | k + 1, hk => by
    show (invF _ k) ++ [-(((List.range (k + 1)).map fun l => ((List.range (m + 1)).map (qs T c)).getD (k + 1 - l) 0 * (invF _ k).getD l 0).sum)] = _
    rw [invF_ok k (by omega), List.range_succ (n := k + 1), List.map_append, List.map_cons, List.map_nil, nc_rec]
    have e : ((List.range (k + 1)).map fun l => ((List.range (m + 1)).map (qs T c)).getD (k + 1 - l) 0 * ((List.range (k + 1)).map (nc T c)).getD l 0) = (List.range (k + 1)).map fun l => qs T c (k + 1 - l) * nc T c l := List.map_congr_left fun l hl => by
      have := List.mem_range.mp hl
      rw [rg_getD _ (by omega), rg_getD _ this]
    rw [e, sum_rng]
theorem ncV_ok (ht : Tab T) {m : Nat} (m60 : m ≤ 60) : ncV T m = (List.range (m + 1)).map (nc T (ltrs T.length)) := by
  unfold ncV
  rw [qTab_ok ht m60 _ (by unfold ltrs; rw [List.length_map, List.length_range]; exact Nat.le_refl _) (wd_ltrs _)]
  exact invF_ok m (Nat.le_refl _)
end
theorem Iso.ncs {T S : Mat} {f g : Int → Int} (h : Iso T S f g) (hT : Tab T) (hS : Tab S) (k : Nat) : nc S (ltrs S.length) k = nc T (ltrs T.length) k := by
  have lT := lvW_ok hT (wd_ltrs T.length) k
  have lS := lvW_ok hS (wd_ltrs S.length) k
  have wd : ∀ w ∈ lvW T (ltrs T.length) k, Wd T.length w := fun w hw => ov_wd (wd_ltrs _) (lT.on w hw).1
  have l2 : Lv S (ltrs S.length) k ((lvW T (ltrs T.length) k).map fun w => w.map f) := by
    refine ⟨fun v hv => ?_, ?_, fun v ov hv => ?_⟩
    · obtain ⟨w, hw, rfl⟩ := List.mem_map.mp hv
      obtain ⟨a, b, c⟩ := lT.on w hw
      refine ⟨fun x hx => ltrs_mem.mpr (h.wd (wd w hw) x hx), ?_, by rw [List.length_map]; exact c⟩
      show LN S _ (List.length _)
      rw [List.length_map]
      exact h.ln hT hS (wd w hw) b
    · rw [List.map_map]
      refine List.pairwise_map.mpr ?_
      refine List.Pairwise.imp_of_mem (fun {w v} hw hv n e => n ?_) (List.pairwise_map.mp lT.nd)
      have := h.symm.row hS hT (h.wd (wd w hw)) (h.wd (wd v hv)) e
      rwa [h.back (wd w hw), h.back (wd v hv)] at this
    · have wv : Wd S.length v := ov_wd (wd_ltrs _) ov
      have wg := h.symm.wd wv
      obtain ⟨w, hw, e⟩ := List.mem_map.mp (lT.all (v.map g) (fun x hx => ltrs_mem.mpr (wg x hx)) (h.symm.ln hS hT wv hv))
      have := h.row hT hS (wd w hw) wg e
      rw [h.symm.back wv] at this
      exact List.mem_map.mpr ⟨w.map f, List.mem_map.mpr ⟨w, hw, rfl⟩, this⟩
  have := lS.len l2
  rw [List.length_map] at this
  unfold nc
  rw [this]
end BW
namespace DL
open PySem PySem.Spec PyProof.Rows L2
open PySem.W (Frag)
end DL
set_option autoImplicit false
set_option maxHeartbeats 1000000
set_option autoImplicit false
set_option maxHeartbeats 1000000
set_option autoImplicit false
set_option maxHeartbeats 1000000
namespace BW
open PySem L2 DL
open TT (sm sm_congr sm_zero)
section
variable {T : Mat} {z : List Int}
theorem nc_over (ht : Tab T) (h : Lgst T z) {k : Nat} (hk : z.length < k) : nc T (ltrs T.length) k = 0 := by
  have lv := lvW_ok ht (wd_ltrs T.length) k
  unfold nc
  cases e : lvW T (ltrs T.length) k with
  | nil => rfl
  | cons w ws =>
    obtain ⟨a, b, c⟩ := lv.on w (by rw [e]; exact List.mem_cons_self)
    have := (h.on ht (ov_wd (wd_ltrs _) a) b).2
    omega
theorem sm_over (ht : Tab T) (h : Lgst T z) : ∀ m, z.length + 1 ≤ m → sm (nc T (ltrs T.length)) m = sm (nc T (ltrs T.length)) (z.length + 1)
  | 0, hm => by omega
  | m + 1, hm => by
    by_cases e : z.length + 1 = m + 1
    · rw [e]
    · rw [sm_succ, sm_over ht h m (by omega), nc_over ht h (by omega)]; omega
end
end BW
set_option maxHeartbeats 1000000
namespace DL
open PySem PySem.Spec PyProof.Rows L2
open PySem.W (Frag)
end DL
set_option autoImplicit false
set_option maxHeartbeats 1000000
namespace BW
open PySem L2 DL
open TT (sm sm_congr)
section
variable {T : Mat} {k : Nat} {r : List Int}
def Fk (T : Mat) (k : Nat) (r : List Int) : Prop := ∃ w, Wd T.length w ∧ LN T w k ∧ row T w = r
theorem wd_ov {n : Nat} {w : List Int} (h : Wd n w) : Ov (ltrs n) w := fun a ha => ltrs_mem.mpr (h a ha)
structure LvG (T : Mat) (k : Nat) (ks G : List (List Int)) : Prop where
  nd : (ks ++ G).Nodup
  gm : ∀ r ∈ G, Fk T (k + 1) r
theorem LvG.len (ht : Tab T) {ks G : List (List Int)} (h : LvG T k ks G) : (G.length : Int) ≤ nc T (ltrs T.length) (k + 1) := by
  have lv := lvW_ok ht (wd_ltrs T.length) (k + 1)
  have := nodup_len (z := (lvW T (ltrs T.length) (k + 1)).map (row T)) (List.nodup_append.mp h.nd).2.1 fun r hr => by
    obtain ⟨w, h1, h2, rfl⟩ := h.gm r hr
    exact lv.all w (wd_ov h1) h2
  rw [List.length_map] at this
  unfold nc
  omega
end
end BW
set_option autoImplicit false
namespace PySem
end PySem
namespace L2
open PySem
open PyProof.Rows (IntsAre)
end L2
namespace DL
open PySem L2
open PySem.W (Frag)
abbrev dgLst (n : Nat) (t : DGs) : DG := fun d s Q => match d with | .lst ds => ds.length = n ∧ t ds s Q | _ => False
section
variable {X : Cx} {c : C} {p pos : Pos}
theorem pgd_lst (hK : c.K = X.K) (hc : X.calm = true) {es : List Expr} {kk : Nat} {ts : List Nat} {t : DGs} {n : Nat} (h : PGs X es (LGs c ts t)) (hn : (assignEach es X.env).length = n := by rfl) (hst : (assignEach es X.env).findIdx? (·.1) = none := by rfl) : PG X (.Tuple es kk pos) (LG c ts (dgLst n t)) :=
  PG.weak (pg_unl hc h hn hst) fun v σ H Q ⟨s, R, d, rp, r, q, f⟩ => by
    cases d <;> first | exact q.elim | skip
    obtain ⟨a, vs, rfl, h1, r1⟩ := r.lstE
    exact ⟨a, vs, rfl, SqL.of (wo_sub _ _ _ _ h1), r1.len.trans q.1, s, R, _, rp, r1, q.2, f⟩
end
end DL
set_option autoImplicit false
set_option maxHeartbeats 1000000
set_option autoImplicit false
set_option maxHeartbeats 1000000
namespace L2
open PySem
open PyProof.Rows PyProof.V PySem.Calls
section
variable {prog : Program} {w : World} {A : Around} {E : Value → Shared → Prop} {s : Shared} {l : Addr} {its : List Value} {ns : List Int} {Q : Value → Shared → Prop}
theorem sum_rawT (hh : A.handled = none) (hl : s.heap.IsTuple l its.toArray) (hi : IntsAre its ns)
    (h : ∀ h' tk t', (∀ b o, s.heap.get? b = some o → h'.get? b = some o) → Q (.int ns.sum t') { s with heap := h', toks := tk }) : wpAny (model prog w) A (call (.builtin "sum") [.ref l]) Q E s := by
  obtain ⟨xs, e⟩ := hi.allInts.items
  have hn : numsOf (intItems xs).toList = ns := by rw [← e]; exact hi.numsOf
  rw [nums_intItems] at hn
  rw [e] at hl
  refine PySem.W.ktm_sumG hh hl fun h' tk t' hk => ?_
  have := h h' tk t' hk
  rw [preSum_eq, List.take_of_length_le (by simp), hn]; exact this
end
def rSumT (K : PySem.W.Frag) : List V → Hp → VK → Prop := fun vs H Q => ∃ (a : Addr) (ns : List Int), vs = [V.ref a] ∧ SqT K H a (ns.map V.int) ∧ Q (.int ns.sum) H
theorem cr_sumT {X : Cx} (hc : X.calm = true) : CallR X (.builtin "sum") (rSumT X.K) := by
  intro pins s σ H vs us Q I r h
  obtain ⟨a, ns, rfl, hs, q⟩ := h
  obtain ⟨its, rv, hl, _⟩ := I.tuple hs
  rw [Vals.ref1 r]
  exact sum_rawT (I.ok.hd hc) hl rv.ints fun h' tk t' hk => ⟨.int _, H, I.kept hk, ⟨_, rfl⟩, q⟩
end L2
namespace DL
open PySem L2
open PySem.W (Frag)
abbrev dSumT (t : DE) : DE := fun s Q => t s fun d k => ∃ ns : List Int, d = .tup (ns.map .int) ∧ Q (.int ns.sum) k
section
variable {X : Cx} {c : C} {p pos : Pos}
theorem pd_sumT (hK : c.K = X.K) (hm : X.mg "sum" = none) (hc : X.calm = true) {e : Expr} {t : DE} (h : PE X e (LE c t)) (hg : Gl X "sum" := by rfl) (hs : starEach [e] X.env = (false, eval e X.env) :: starEach [] X.env := by rfl) (hp : (backTo pos (starEach [] X.env)).any (·.1) = false := by rfl) :
    PE X (.Call (.Name "sum" p) [e] [] pos) (LE c (dSumT t)) :=
  (pe_callB (cr_sumT hc) hg hm (by first | exact PySem.boot_sum | exact PyProof.Rows.boot_sum | rfl) (pa_cons h pa_nil hs) (he := hs) (hpl := hp)).weak fun σ H Q ⟨s, R, rp, q, f⟩ => ⟨s, _, rp, q, fun d k ⟨ns, h1, h2⟩ v H1 r1 a1 e1 => by
    subst h1
    obtain ⟨a, vs, rfl, h, r⟩ := e1.tupE
    obtain rfl := r.ints_v
    exact ⟨a, ns, rfl, hK ▸ (wo_sub _ _).st h, f _ k h2 _ H1 r1 a1 (.int _)⟩⟩
end
end DL
set_option autoImplicit false
set_option maxHeartbeats 1000000
namespace BW
open PySem L2 DL
open TT (sm sm_congr)
theorem shwO_int {a : Int} (h : a.natAbs.log2 < 1920) : ShwO (.int a) := ⟨rfl, decide_eq_true h, by show 0 ≤ 60; decide, by show 1921 ≤ sizeLine; decide⟩
theorem ne_int {a : Int} {Q : D → Prop} (q : Q (.bl false)) : oNe (.int a) (.int a) Q := by
  refine ⟨rfl, rfl, ?_⟩
  rw [show PyData.eqv (D.int a).py (D.int a).py = true from decide_eq_true rfl]
  exact q
section
variable {BC : Addr} {DD : DEnds} {T : Mat} {m : Nat} {w l : Int} {X : List Addr} {k : Nat} {x2 x3 x4 x5 x6 x7 x8 x9 x10 x11 x12 : Sl}
abbrev T20 : Mat := [[1, 0], [0, 1]]
abbrev T11 : Mat := [[1]]
theorem tab20 : Tab T20 := tabB_ok (by decide +kernel)
theorem tab11 : Tab T11 := tabB_ok (by decide +kernel)
end
end BW
set_option maxHeartbeats 1000000
namespace DL
open PySem PySem.Spec PyProof.Rows L2
open PySem.W (Frag)
structure DwN where
  nx : S → List Kv → List Kv → Prop
  rt : D → Nat → Prop
  bk : S → List Kv → List Kv → Prop := fun _ _ _ => False
  ct : S → List Kv → List Kv → Prop := fun _ _ _ => False
structure DwAt (c : C) (i j : Nat) (p q : Addr) (La : List Ve) (k1 : List Kv) (Lb : List Ve) (k2 : List Kv) (s : S) (σ : L2.St) (H : Hp) : Prop where
  a : DvAt c i p La k1 s σ H
  b : DvAt c j q Lb k2 s σ H
  ne : p ≠ q
structure FitsDW (c : C) (i j : Nat) (p q : Addr) (X : List Addr) (H : Hp) (DD : DwN) (D : Ends) : Prop where
  nx : ∀ s' σ' H' La k1 Lb k2, Rep c s' σ' H' → Adv' c X H s'.X H' → DwAt c i j p q La k1 Lb k2 s' σ' H' → DD.nx s' k1 k2 → D.nx σ' H'
  bk : ∀ s' σ' H' La k1 Lb k2, Rep c s' σ' H' → Adv' c X H s'.X H' → DwAt c i j p q La k1 Lb k2 s' σ' H' → DD.bk s' k1 k2 → D.bk σ' H'
  ct : ∀ s' σ' H' La k1 Lb k2, Rep c s' σ' H' → Adv' c X H s'.X H' → DwAt c i j p q La k1 Lb k2 s' σ' H' → DD.ct s' k1 k2 → D.ct σ' H'
  rt : ∀ d k v H', Fin c H' k → Rl c.K (c.hid c.X0 H') v d → DD.rt d k → D.rt v H'
theorem FitsDW.on {c : C} {i j : Nat} {p q : Addr} {X X1 : List Addr} {H H1 : Hp} {DD : DwN} {D : Ends} (f : FitsDW c i j p q X H DD D) (a : Adv' c X H X1 H1) : FitsDW c i j p q X1 H1 DD D :=
  ⟨fun s' σ' H' La k1 Lb k2 r b => f.nx s' σ' H' La k1 Lb k2 r (a.trans b), fun s' σ' H' La k1 Lb k2 r b => f.bk s' σ' H' La k1 Lb k2 r (a.trans b), fun s' σ' H' La k1 Lb k2 r b => f.ct s' σ' H' La k1 Lb k2 r (a.trans b), f.rt⟩
theorem DwAt.on {c : C} {i j : Nat} {p q : Addr} {La Lb : List Ve} {k1 k2 : List Kv} {s : S} {σ : L2.St} {H H1 : Hp} {k : Nat} (a : DwAt c i j p q La k1 Lb k2 s σ H) (e : AdvE c s.X H H1) : DwAt c i j p q La k1 Lb k2 (s.at k) σ H1 := ⟨a.a.on e, a.b.on e, a.ne⟩
end DL
set_option autoImplicit false
set_option maxHeartbeats 1000000
namespace BW
open PySem L2 DL
open TT (sm sm_congr)
abbrev t_check_number : DS := (dIfS (dOr (dNot (dTru (dCall sp_is_whole (dCons (dVar 0) dNil)))) (dNot (dTB (dCh oLe oLe (dC (.int 0)) (dVar 0) (dVar 1))))) (fun _ _ => False) dNext)
theorem r_check_number (X : List Addr) (ds : List D) (k : Nat) (R : D → Nat → Prop) (h : sp_check_number ds k R) : t_check_number (En R) (St0 false 2 ds X k) := by
  obtain ⟨v, b, rfl, h1, h2, h⟩ := h
  refine ⟨_, rfl, _, rfl, rfl, _, rfl, iteF ⟨_, rfl, ?_⟩⟩
  refine ⟨decide (0 ≤ v), rfl, ?_⟩
  rw [decide_eq_true h1]
  refine iteT ⟨_, rfl, _, rfl, ?_⟩
  rw [decide_eq_true h2]
  exact iteF h
def sp_size (BC : Addr) : DSp := fun ds k R => ∃ T u, ds = [bnd BC T] ∧ Tab T ∧ lgF T (ltrs T.length) 61 (one T) [] = some u ∧ R (.int (sm (nc T (ltrs T.length)) 61)) k
abbrev tA_size (BC : Addr) (K : PySem.W.Frag) : DS := (dSeq (dIfS (dNot (dTru (dCall (sp_is_finite BC) (dCons (dVar 0) dNil)))) (fun _ _ => False) dNext)
  (dRet (dSumT (dCallT (sp_counts BC) (dCons (dVar 0) (dCons (dC (.int (60))) dNil))))))
theorem rA_size (BC : Addr) (K : PySem.W.Frag) (X : List Addr) (ds : List D) (k : Nat) (R : D → Nat → Prop) (h : sp_size BC ds k R) : tA_size BC K (En R) (St0 false 1 ds X k) := by
  obtain ⟨T, u, rfl, ht, e, h⟩ := h
  refine ⟨_, rfl, T, rfl, ht, _, rfl, ?_⟩
  rw [e]
  refine iteF fun X' => ⟨_, rfl, T, 60, rfl, ht, by decide, (List.range 61).map (nc T (ltrs T.length)), rfl, ?_⟩
  rw [sum_rng]
  exact h
def t_size (BC : Addr) (K : PySem.W.Frag) : DS := tA_size BC K
theorem r_size (BC : Addr) (K : PySem.W.Frag) (X : List Addr) (ds : List D) (k : Nat) (R : D → Nat → Prop) (h : sp_size BC ds k R) : t_size BC K (En R) (St0 false 1 ds X k) := rA_size BC K X ds k R h
end BW
set_option maxHeartbeats 1000000
namespace L2G
open PySem PySem.Spec PyProof.Rows L2
theorem okKX {P : Program} {w : World} {K : PySem.W.Frag} {mg : Str → Option Value} {base : Heap} {x qual : Str} {st : Stmt} {p : Str × Option Str} {fd : FuncData} {N ps : List Str} {k : Nat} {sp : Sp} (F : Fun K x qual st (He.fAd K p) fd) (S : FnScope N ps (defScope st)) (ln : ∀ vs H Q E, sp vs H Q E → vs.length = ps.length)
    (bd : ∀ (cdv : Value) (A : Around) (ou : List Env) (s : Shared) (H : Hp) (vs : List V) (Q : VK) (E : XK), cdv = .ref (He.codeOf K p) → Room k (A.deeper (envOfC qual (defScope st) s.heap.objs.size (He.fAd K p) cdv)) → sp vs H Q E →
      ∃ t, PSs (cxOf (L2.CX P w) P w K mg base N qual (defScope st) (He.fAd K p) cdv A ou s H E) (defBody st) t ∧ t { nx := fun _ H' => Q .non H', rt := Q } (L2.start N vs) H) : FnOk P w K mg base (L2.CX P w) (k + 1) (He.fAd K p) fd ps sp := by
  obtain ⟨oc, od, kV, doc, pm, an, cdv, ct, osl, rfl, lk, cdok⟩ := F.ex
  obtain ⟨cc, rfl⟩ := He.codeIn_ref cdok
  have ecc : He.codeOf K p = cc := He.codeOf_eq lk rfl
  exact fn_of lk cdok S ln fun A outer s H vs Q E hr hsp => bd (.ref cc) A outer s H vs Q E (by rw [ecc]) hr hsp
theorem okK0 {P : Program} {w : World} {K : PySem.W.Frag} {mg : Str → Option Value} {base : Heap} {x qual : Str} {st : Stmt} {p : Str × Option Str} {fd : FuncData} {N ps : List Str} {k : Nat} {sp : Sp} (F : Fun K x qual st (He.fAd K p) fd) (S : FnScope N ps (defScope st)) (ln : ∀ vs H Q E, sp vs H Q E → vs.length = ps.length)
    (bd : ∀ (cdv : Value) (A : Around) (ou : List Env) (s : Shared) (H : Hp) (vs : List V) (Q : VK) (E : XK), cdv = .ref (He.codeOf K p) → Room k (A.deeper (envOfC qual (defScope st) s.heap.objs.size (He.fAd K p) cdv)) → sp vs H Q E →
      ∃ t, PSs (cxOf CX0 P w K mg base N qual (defScope st) (He.fAd K p) cdv A ou s H E).nox (defBody st) t ∧ t { nx := fun _ H' => Q .non H', rt := Q } (L2.start N vs) H) : FnOk P w K mg base CX0 (k + 1) (He.fAd K p) fd ps sp := by
  obtain ⟨oc, od, kV, doc, pm, an, cdv, ct, osl, rfl, lk, cdok⟩ := F.ex
  obtain ⟨cc, rfl⟩ := He.codeIn_ref cdok
  have ecc : He.codeOf K p = cc := He.codeOf_eq lk rfl
  exact fn_of lk cdok S ln fun A outer s H vs Q E hr hsp => let ⟨t, h1, h2⟩ := bd (.ref cc) A outer s H vs Q E (by rw [ecc]) hr hsp; ⟨t, h1.nox, h2⟩
end L2G
namespace DL
open PySem L2
open PySem.W (Frag)
def spDXT (K : Frag) (T : List (Addr × PySem.Str)) (sp : DSpX) : Sp := fun vs H Q E => ∃ (m : Mc) (X0 : List Addr) (k : Nat) (ds : List D) (R Ex : D → Nat → Prop),
  (m.T = T ∧ m.kd = none) ∧ Ahd K (some m) X0 H k vs ds ∧ sp ds k R Ex ∧
  (∀ d k', R d k' → ∀ v H', AftT K (some m) X0 H H' k' → Rl K (wo H' (Ml (some m) ++ X0)) v d → Q v H') ∧
  ∀ d k', Ex d k' → ∀ cls dd H', AftT K (some m) X0 H H' k' → XRl K (wo H' (Ml (some m) ++ X0)) cls dd d → E cls dd H'
structure CalXT (P : Program) (w : World) (K : Frag) (mg : PySem.Str → Option Value) (base : Heap) (k : Nat) (x : PySem.Str) (T : List (Addr × PySem.Str)) (sp : DSpX) : Prop where
  ex : ∃ f fd ps, FnOk P w K mg base (L2.CX P w) k f fd ps (spDXT K T sp) ∧ mg x = some (.ref f) ∧ PySem.W.keepIn K (.ref f) = true ∧ Binds K fd ps []
abbrev dCallXT (sp : DSpX) (Ex : EX) (t : DA) : DE := fun s Q => t s fun ds k => sp ds k Q (fun d k' => Ex d ((s.at k).at k'))
section
variable {X : Cx} {c : C} {T : List (Addr × PySem.Str)} {k j : Nat} {x : PySem.Str} {sp : DSpX} {p pos : Pos} {Ex : EX}
theorem pd_callXT (hK : c.K = X.K) (fr : LwC c T) (tk : Takes X (WL c Ex)) (F : CalXT X.prog X.w X.K X.mg X.base k x T sp) (hr : Room j X.A) (hk : k ≤ j) {e : Expr} {es : List Expr} {t : DA} (ha : PA X (e :: es) (LA c t)) (hg : Gl X x := by rfl) (hdb : (x == ("__debug__" : PySem.Str)) = false := by decide) (he : starEach (e :: es) X.env = (false, eval e X.env) :: starEach es X.env := by rfl) (hpl : (backTo pos (starEach es X.env)).any (·.1) = false := by rfl) :
    PE X (.Call (.Name x p) (e :: es) [] pos) (LE c (dCallXT sp Ex t)) := by
  obtain ⟨f, fd, ps, G, hm, kp, b⟩ := F.ex
  obtain ⟨⟨m, hM, hT⟩, h0⟩ := fr
  refine (pe_callS G (hr.mono hk) hg hm kp b (fun σ => passAt tk σ) ha hdb he hpl).weak fun σ H Q ⟨s, R, rp, q, fn⟩ => ⟨s, _, rp, q, fun ds k1 h1 vs H1 r1 a1 e1 => ?_⟩
  have xm := r1.xm
  have mm := r1.m
  rw [hM] at xm mm
  have e1' : RlA X.K (wo H1 (Ml (some m) ++ s.X)) vs ds := by rw [← hK, ← hM]; exact e1
  refine ⟨m, s.X, k1, ds, _, _, hT, ⟨xm, r1.xs, mm, e1', r1.xt⟩, h1, fun d k' hR v H' af er => ?_, fun d k' hE cls dd H' af er => ?_⟩
  · have z := Rep.afterT (s := s.at k1) (k := k') r1 h0 ⟨by rw [hM]; exact af.sub, af.old, by rw [hM]; exact af.m, af.tup⟩
    exact fn d k' hR v H' z.1 (a1.trans z.2) (by
      show Rl c.K (wo H' (Ml c.M ++ s.X)) v d
      rw [hK, hM]; exact er)
  · have z := Rep.afterT (s := s.at k1) (k := k') r1 h0 ⟨by rw [hM]; exact af.sub, af.old, by rw [hM]; exact af.m, af.tup⟩
    exact ⟨(s.at k1).at k', d, z.1, (by
      show XRl c.K (wo H' (Ml c.M ++ s.X)) cls dd d
      rw [hK, hM]; exact er), hE⟩
end
theorem okDXT {P : Program} {w : World} {K : PySem.W.Frag} {mg : PySem.Str → Option Value} {base : Heap} {x qual : PySem.Str} {st : Stmt} {pn : PySem.Str × Option PySem.Str} {fd : FuncData} {N ps : List PySem.Str} {k : Nat} {sp : DSpX} {T : List (Addr × PySem.Str)} (F : Fun K x qual st (He.fAd K pn) fd) (Sc : FnScope N ps (defScope st)) (ow : List Nat)
    (len : ∀ ds k R E, sp ds k R E → ds.length = ps.length)
    (body : ∃ t : EX → DS, (∀ (cdv : Value) (A : Around) (outer : List Env) (s : Shared) (H : Hp) (E : XK) (c : C) (Ex : EX), cdv = .ref (He.codeOf K pn) → c.K = K → LwC c T → c.ow = ow → Room k (A.deeper (PyProof.Rows.envOfC qual (defScope st) s.heap.objs.size (He.fAd K pn) cdv)) →
        Takes (cxOf (L2.CX P w) P w K mg base N qual (defScope st) (He.fAd K pn) cdv A outer s H E) (WL c Ex) →
        PSs (cxOf (L2.CX P w) P w K mg base N qual (defScope st) (He.fAd K pn) cdv A outer s H E) (defBody st) (LS c (t Ex))) ∧
      ∀ X ds k R E, sp ds k R E → t (fun d s => E d s.k) { nx := fun s => R .non s.k, rt := R } ⟨X, init false N.length ds, k⟩) :
    FnOk P w K mg base (L2.CX P w) (k + 1) (He.fAd K pn) fd ps (spDXT K T sp) := by
  obtain ⟨t, hb, hr⟩ := body
  have lens : ∀ vs H Q E, spDXT K T sp vs H Q E → vs.length = ps.length := fun vs H Q E ⟨m, X0, k, ds, R, Ex, hT, a, h2, h3, _⟩ => by
    rw [a.args.len]
    exact len ds k R Ex h2
  refine L2G.okKX F Sc lens fun cdv A outer s H vs Q E hcd room h => ?_
  have hl := lens _ _ _ _ h
  obtain ⟨m, X0, k', ds, R, Ex, hT, a, h2, h3, h4⟩ := h
  have hpl : ps.length ≤ N.length := by have := congrArg List.length Sc.pre; rw [List.length_take] at this; omega
  have sb : ∀ H' : Hp, Sub (wo (nt H) (Ml (some m) ++ X0)) (wo H' (Ml (some m) ++ X0)) → Sub (wo H (Ml (some m) ++ X0)) (wo H' (Ml (some m) ++ X0)) := fun H' f b o e => by
    obtain ⟨n1, e, n2⟩ := wo_all e
    exact f b o (wo_of n1 (nt_of e n2) n2)
  have aft : ∀ {H' : Hp} {k : Nat}, Fin ⟨K, some m, X0, nt H, ow⟩ H' k → AftT K (some m) X0 H H' k := fun {H' k} fi => ⟨sb H' fi.sub, fun b hb => by
    have hn : H b ≠ none := a.xs b hb
    cases eb : H b with
    | none => exact absurd eb hn
    | some o =>
      have e2 : nt H b = some o := nt_of eb fun ps z => a.xt b hb ps (by rw [eb, z])
      have q : H' b = nt H b := fi.old b hb (a.xm b hb) (by show nt H b ≠ none; rw [e2]; simp)
      rw [q, e2], fi.m, fun b vs h => fi.tb.tup b vs (rd_nt h)⟩
  refine ⟨LS ⟨K, some m, X0, nt H, ow⟩ (t fun d s => Ex d s.k), hb cdv A outer s H E ⟨K, some m, X0, nt H, ow⟩ (fun d s => Ex d s.k) hcd rfl ⟨⟨m, rfl, hT⟩, nt_no H⟩ rfl room ((takes_of rfl rfl rfl rfl).imp fun cls dd σ H' ⟨s', d, rp, e, q⟩ => h4 d s'.k q cls dd H' (aft rp.fin) (e.mono rp.sub0)), ⟨X0, init false N.length ds, k'⟩, _, init_repT hT.2 rfl a (by omega), hr X0 ds k' R Ex h2, ?_⟩
  have fin : ∀ d k v H', Fin ⟨K, some m, X0, nt H, ow⟩ H' k → Rl K (wo H' (Ml (some m) ++ X0)) v d → R d k → Q v H' := fun d k v H' fi e r => h3 d k r v H' (aft fi) e
  exact ⟨fun s' σ' H' r _ q => fin .non s'.k .non H' r.fin .non q, fun _ _ _ _ _ q => q, fun _ _ _ _ _ q => q, fun d k v H' fi e r => fin d k v H' fi e r⟩
structure CalT0 (P : Program) (w : World) (K : PySem.W.Frag) (mg : PySem.Str → Option Value) (base : Heap) (k : Nat) (x : PySem.Str) (T : List (Addr × PySem.Str)) (sp : DSp) : Prop where
  ex : ∃ f fd ps, FnOk P w K mg base CX0 k f fd ps (spDT K T false sp) ∧ mg x = some (.ref f) ∧ PySem.W.keepIn K (.ref f) = true ∧ Binds K fd ps []
theorem CalT0.g {P : Program} {w : World} {K : PySem.W.Frag} {mg : PySem.Str → Option Value} {base : Heap} {k : Nat} {x : PySem.Str} {T : List (Addr × PySem.Str)} {sp : DSp} (F : CalT0 P w K mg base k x T sp) : CalT P w K mg base k x T false sp :=
  let ⟨f, fd, ps, G, a, b, c⟩ := F.ex; ⟨f, fd, ps, L2G.FnG.of G, a, b, c⟩
section
variable {X : Cx} {c : C} {T : List (Addr × PySem.Str)} {k j : Nat} {x : PySem.Str} {sp : DSp} {p pos : Pos}
theorem pd_callT0 (hK : c.K = X.K) (fr : LwC c T) (F : CalT0 X.prog X.w X.K X.mg X.base k x T sp) (hr : Room j X.A) (hk : k ≤ j) {e : Expr} {es : List Expr} {t : DA} (ha : PA X (e :: es) (LA c t)) (hg : Gl X x := by rfl) (hdb : (x == ("__debug__" : PySem.Str)) = false := by decide) (he : starEach (e :: es) X.env = (false, eval e X.env) :: starEach es X.env := by rfl) (hpl : (backTo pos (starEach es X.env)).any (·.1) = false := by rfl) :
    PE X (.Call (.Name x p) (e :: es) [] pos) (LE c (dCallT sp t)) := by
  obtain ⟨f, fd, ps, G, hm, kp, b⟩ := F.ex
  obtain ⟨⟨m, hM, hT⟩, h0⟩ := fr
  refine (pe_call (E := E0) G (hr.mono hk) hg hm kp b .nil pass0 ha hdb he hpl).weak fun σ H Q ⟨s, R, rp, q, fn⟩ => ⟨s, _, rp, q, fun ds k1 h1 vs H1 r1 a1 e1 => ?_⟩
  have xm := r1.xm
  have mm := r1.m
  rw [hM] at xm mm
  have e1' : RlA X.K (wo H1 (Ml (some m) ++ s.X)) vs ds := by rw [← hK, ← hM]; exact e1
  refine ⟨m, s.X, k1, ds, vs, _, hT, by rw [List.append_nil], ⟨xm, r1.xs, mm, e1', r1.xt⟩, h1, fun d k' hR v H' af er => ?_⟩
  have z := Rep.afterT (s := s.at k1) (k := k') r1 h0 ⟨by rw [hM]; exact af.sub, af.old, by rw [hM]; exact af.m, af.tup⟩
  exact fn d k' hR v H' z.1 (a1.trans z.2) (by
    show Rl c.K (wo H' (Ml c.M ++ s.X)) v d
    rw [hK, hM]; exact er)
end
theorem okDT0 {P : Program} {w : World} {K : PySem.W.Frag} {mg : PySem.Str → Option Value} {base : Heap} {x qual : PySem.Str} {st : Stmt} {pn : PySem.Str × Option PySem.Str} {fd : FuncData} {N ps : List PySem.Str} {k : Nat} {sp : DSp} {T : List (Addr × PySem.Str)} (F : Fun K x qual st (He.fAd K pn) fd) (Sc : FnScope N ps (defScope st)) (ow : List Nat)
    (len : ∀ ds k R, sp ds k R → ds.length = ps.length)
    (body : ∃ t : DS, (∀ (cdv : Value) (A : Around) (outer : List Env) (s : Shared) (H : Hp) (E : XK) (c : C), cdv = .ref (He.codeOf K pn) → c.K = K → LwC c T → c.ow = ow → Room k (A.deeper (PyProof.Rows.envOfC qual (defScope st) s.heap.objs.size (He.fAd K pn) cdv)) →
        PSs (cxOf CX0 P w K mg base N qual (defScope st) (He.fAd K pn) cdv A outer s H E).nox (defBody st) (LS c t)) ∧
      ∀ X ds k R, sp ds k R → t { nx := fun s => R .non s.k, rt := R } ⟨X, init false N.length ds, k⟩) :
    FnOk P w K mg base CX0 (k + 1) (He.fAd K pn) fd ps (spDT K T false sp) := by
  obtain ⟨t, hb, hr⟩ := body
  have lens : ∀ vs H Q E, spDT K T false sp vs H Q E → vs.length = ps.length := fun vs H Q E ⟨m, X0, k, ds, ws, R, hT, h1, a, h2, h3⟩ => by
    have h1 : vs = ws := h1
    subst h1
    rw [a.args.len]
    exact len ds k R h2
  refine L2G.okK0 F Sc lens fun cdv A outer s H vs Q E hcd room h => ?_
  have hl := lens _ _ _ _ h
  obtain ⟨m, X0, k', ds, ws, R, hT, h1, a, h2, h3⟩ := h
  have hpl : ps.length ≤ N.length := by have := congrArg List.length Sc.pre; rw [List.length_take] at this; omega
  refine ⟨LS ⟨K, some m, X0, nt H, ow⟩ t, hb cdv A outer s H E ⟨K, some m, X0, nt H, ow⟩ hcd rfl ⟨⟨m, rfl, hT⟩, nt_no H⟩ rfl room, ⟨X0, init false N.length ds, k'⟩, _, init_repT hT.2 h1 a (by omega), hr X0 ds k' R h2, ?_⟩
  have sb : ∀ H' : Hp, Sub (wo (nt H) (Ml (some m) ++ X0)) (wo H' (Ml (some m) ++ X0)) → Sub (wo H (Ml (some m) ++ X0)) (wo H' (Ml (some m) ++ X0)) := fun H' f b o e => by
    obtain ⟨n1, e, n2⟩ := wo_all e
    exact f b o (wo_of n1 (nt_of e n2) n2)
  have fin : ∀ d k v H', Fin ⟨K, some m, X0, nt H, ow⟩ H' k → Rl K (wo H' (Ml (some m) ++ X0)) v d → R d k → Q v H' := fun d k v H' fi e r => by
    refine h3 d k r v H' ⟨sb H' fi.sub, fun b hb => ?_, fi.m, fun b vs h => fi.tb.tup b vs (rd_nt h)⟩ e
    have hn : H b ≠ none := a.xs b hb
    cases eb : H b with
    | none => exact absurd eb hn
    | some o =>
      have e2 : nt H b = some o := nt_of eb fun ps z => a.xt b hb ps (by rw [eb, z])
      have q : H' b = nt H b := fi.old b hb (a.xm b hb) (by show nt H b ≠ none; rw [e2]; simp)
      rw [q, e2]
  exact ⟨fun s' σ' H' r _ q => fin .non s'.k .non H' r.fin .non q, fun _ _ _ _ _ q => q, fun _ _ _ _ _ q => q, fun d k v H' fi e r => fin d k v H' fi e r⟩
end DL
set_option maxHeartbeats 1000000
namespace DL
open PySem PySem.Spec PyProof.Rows L2 LamX LamD
open PySem.W (Frag)
theorem Rep.fromT {c : C} {s : S} {σ : L2.St} {H : Hp} (r : Rep c s σ H) : Rep ⟨c.K, c.M, s.X, nt H, c.ow⟩ s.nOwn σ H := by
  have q := r.fromN
  refine ⟨fun a o e => ?_, fun a ha hm hn => ?_, fun _ h => h, r.xm, r.xs, r.m, fun i x e => ?_, q.apart, q.len, tbk_none (nt_no H) fun b vs h => nt_rd h, r.xt⟩
  · obtain ⟨n1, e, n2⟩ := wo_all e
    exact wo_of n1 (nt_some e).1 n2
  · cases e : nt H a with
    | none => exact absurd e hn
    | some o => exact (nt_some e).1.trans e.symm
  · have e : (s.sl.map Sl.nOwn)[i]? = some x := e
    rw [List.getElem?_map] at e
    obtain ⟨y, hy, rfl⟩ := Option.map_eq_some_iff.mp e
    have q := r.slot i y hy
    cases y with
    | own p ds => trivial
    | no => exact q
    | dat d => exact q
    | mst => exact q
    | kds N Z => exact q
    | scr ns => exact q
section
variable {X : Cx} {c : C} {m : Mc} {k : Nat} {g cc P C1 C2 : Addr} {spC : DSp} {tR : DS} {ns : List PySem.Str} {t : EX → DE}
theorem heard_coreT {T : List (Addr × PySem.Str)} (hT : m.T = T) (hkd : m.kd = none) (hK : c.K = X.K) (hM : c.M = some m) (h0 : NoTs c.H0) (hcat : ∀ n ∈ ns, PySem.W.exmAny X.K (.ref (He.ga X.K n)) [.ref C1, .ref C2] = some true) (hb : HearsBy spC tR) (σ : L2.St) (H : Hp) (Q : VK) (hq : LE c (dTold ns spC t) σ H Q) :
    tLam m.T (TTh X.K C1 C2 tR) (fun E σ H Q => ∃ (c2 : C) (Ex : EX), c2.K = X.K ∧ LwC c2 T ∧ (∀ cls dd σ' H', WL c2 Ex cls dd σ' H' → E cls dd H') ∧ LE c2 (t Ex) σ H Q) σ H Q := by
  obtain ⟨s, R, rp, q, fn⟩ := hq
  refine ⟨?_, fun H1 ex tb => ?_⟩
  · have z := rp.m
    rw [hM] at z
    have tb := z.tabs
    exact tb
  · obtain ⟨r1, ad1⟩ := rp.extN hM h0 ex tb
    intro l hl
    have n2 := r1.new (o := .lst []) hl
    generalize hHp : upd H1 l (.lst []) = Hp at n2 ⊢
    have ad2 := ad1.trans n2.2
    have sbT : ∀ {Z : List Addr} {B : L2.Hp}, Sub (wo (nt Hp) Z) B → Sub (wo Hp Z) B := fun {Z B} f b o e => by
      obtain ⟨m1, e, m2⟩ := wo_all e
      exact f b o (wo_of m1 (nt_of e m2) m2)
    have hX : ∀ b ∈ s.X, nt Hp b = Hp b ∧ nt Hp b ≠ none := fun b hb => by
      have hn : Hp b ≠ none := n2.1.xs b hb
      cases eb : Hp b with
      | none => exact absurd eb hn
      | some o =>
        have e2 : nt Hp b = some o := nt_of eb fun ps z => n2.1.xt b hb ps (by rw [eb, z])
        exact ⟨e2, by rw [e2]; simp⟩
    refine ⟨⟨c.K, c.M, s.X, nt Hp, c.ow⟩, _, hK, ⟨⟨m, hM, hT, hkd⟩, nt_no _⟩, ?_, s.nOwn, _, n2.1.fromT, q, ?_⟩
    · rintro cls dd σ' H' ⟨s2, x, r2, ex2, ⟨n, fs, ds, rfl, hk⟩, hsp⟩
      obtain ⟨n', fs', ds', vs, e, rfl, fx, fl, fr⟩ := ex2
      cases e
      refine ⟨by show PySem.W.exmAny X.K (.ref (He.ga c.K n)) _ = _; rw [hK]; exact hcat _ hk, fun a ha => ?_⟩
      have up : Sub (c.hid s2.X H') (c.hid s.X H') := wo_more fun a h => (List.mem_append.mp h).elim (List.mem_append_left _) fun h => List.mem_append_right _ (r2.x0 a h)
      have sub : Sub (c.hid s.X Hp) (c.hid s.X H') := sbT (Sub.trans r2.sub up)
      have same : ∀ b ∈ s.X, H' b = Hp b := fun b hb => (r2.old b hb (n2.1.xm b hb) (hX b hb).2).trans (hX b hb).1
      have r3 : Rep c (s.at s2.k) σ H' := n2.1.step (k := s2.k) sub (fun b hb _ => same b hb) r2.m (tbk_none h0 fun b vs h => r2.tb.tup b vs (rd_nt (n2.1.tb.tup b vs h)))
      have ad3 : AdvE c s.X Hp H' := ⟨sub, same⟩
      have n4 := r3.new (o := xob a (.ref (He.ga c.K n)) dd) ha
      have fx' : ExF (c.hid s.X H') dd fs vs := ExF.mono up fx
      have fr' : RlA c.K (c.hid s.X H') vs ds := RlA.mono up fr
      have ev : Rl c.K (c.hid s.X (upd H' a (xob a (.ref (He.ga c.K n)) dd))) (.ref a) (.exc n fs ds) := .exc (r3.at_new ha) (fx'.mono n4.2.sub) fl (fr'.mono n4.2.sub)
      show ∃ c0 : C, c0.K = X.K ∧ c0.ow = [4] ∧ ∀ σ : L2.St, σ.length = 9 → σ[2]? = some (some (.ref a)) → LS c0 tR { nx := fun _ H' => Q .non H', rt := Q } σ (upd H' a (xob a (.ref (He.ga c.K n)) dd))
      refine ⟨⟨X.K, none, Ml c.M ++ s.X, upd H' a (xob a (.ref (He.ga c.K n)) dd), [4]⟩, rfl, rfl, fun σ2 l9 at2 => ?_⟩
      refine ⟨⟨Ml c.M ++ s.X, slH (.exc n fs ds), 0⟩, ⟨fun _ => False, fun d _ => R (d) s2.k, fun _ => False, fun _ => False⟩, rep_ofW (fun a _ => by simp [Ml]) n4.1.allHid n4.1.allTb (by rw [l9]; rfl) trivial (fun i y e => ?_) (fun i p ds e => ?_), hb _ _ _ hsp, fun _ _ _ _ _ q => q.elim, fun _ _ _ _ _ q => q.elim, fun _ _ _ _ _ q => q.elim, fun d k' v H'' af er hR => ?_⟩
      · have ev' : Rl X.K (wo (upd H' a (xob a (.ref (He.ga c.K n)) dd)) (Ml c.M ++ s.X)) (.ref a) (.exc n fs ds) := hK ▸ ev
        match i, e with
        | 0, e => cases e; trivial
        | 1, e => cases e; trivial
        | 2, e => cases e; exact ⟨.ref a, at2, ev'⟩
        | 3, e => cases e; trivial
        | 4, e => cases e; trivial
        | 5, e => cases e; trivial
        | 6, e => cases e; trivial
        | 7, e => cases e; trivial
        | 8, e => cases e; trivial
      · have mem := List.mem_of_getElem? e
        simp at mem
      · have z := Rep.after (s := s.at s2.k) (H' := H'') (k := 0) n4.1 ⟨af.sub, fun b hb => af.old b hb (by simp [Ml]) (n4.1.allHid b hb), trivial, af.tb⟩
        exact fn d s2.k hR v H'' z.1 (((ad2.trans ad3).trans n4.2).trans z.2) (hK ▸ er)
    · intro d k1 hR v H3 r3 a3 e3 y hy
      have ad3 : AdvE c s.X Hp H3 := ⟨a3.sub, a3.own⟩
      have r4 : Rep c (s.at k1) σ H3 := n2.1.step (k := k1) ad3.sub (fun b hb _ => ad3.own b hb) r3.m (tbk_none h0 fun b vs h => r3.tb.tup b vs (rd_nt (n2.1.tb.tup b vs h)))
      have n4 := r4.new (o := .lst [v]) hy
      exact fn (.lst [d]) k1 hR (.ref y) _ n4.1 ((ad2.trans ad3).trans n4.2) (.lst (r4.at_new hy) (.cons (Rl.mono n4.2.sub e3) .nil))
end
section
variable {X : Cx} {c : C} {T : List (Addr × PySem.Str)} {k j : Nat} {cc Pt : Addr} {q : PySem.Str} {spC : DSp} {ns : List PySem.Str} {t : EX → DE} {params : Arguments} {body : Expr} {scope : Scope} {p lpos pos : Pos}
theorem pd_heardT (hK : c.K = X.K) (fr : LwC c T) (it : InT T Pt q) (hd : HdB X.prog X.w X.K X.mg X.base ns spC) (TB : TabB X.base X.mg cc Pt) (hcode : X.env.code = .ref cc) (hr : Room j X.A) (hk : k + 2 ≤ j) (L : LamS X.env.scope scope)
    (hbody : ∀ (A : Around) (outer : List Env) (s : Shared) (H : Hp) (E : XK) (f c' : Addr) (c2 : C) (Ex : EX), Room k (A.deeper (lamEnv X scope s.heap.objs.size f c')) → c2.K = X.K → LwC c2 T → Takes (lamCx X A outer s H E scope f c') (WL c2 Ex) → PE (lamCx X A outer s H E scope f c') body (LE c2 (t Ex)))
    (hq : X.env.qual ++ "<lambda>" = q := by rfl) (hg : Gl X "_law_heard" := by rfl) (hdef : defaultsOf params X.env = ([], []) := by rfl)
    (hbind : ∀ (q : PySem.Str) (cl : List (PySem.Str × Addr)) (pm cv ctv : Value), bindArgs (PySem.W.kla_fn "<lambda>" q params body scope cl pm cv ctv) ⟨[], []⟩ = pure [] := by intros; rfl) :
    PE X (.Call (.Name "_law_heard" p) [.Lambda params body scope lpos] [] pos) (LE c (dTold ns spC t)) := by
  obtain ⟨⟨m, hM, hT, hkd⟩, h0⟩ := fr
  obtain ⟨st, g, C1, C2, fd, F, bF, hm, m1, m2, hcat, rest, tR, a1, a2, a3, a4, a5, a6, a7, b1, b2, b3, b4, b5, b6, b7, b8, b9, b10, b11, b12, b13, c1, c2, c3, c4, c5, c6, e1, e2, e3, e4, e5⟩ := hd.ex
  obtain ⟨oc, od, kV, doc, pm, an, cdv, ct, osl, rfl, lk, hcd⟩ := F.ex
  rw [e1, e2] at lk bF
  refine (pe_lamcall (T := m.T) (TT := TTh X.K C1 C2 tR) (Ng := HN) (t := fun E σ H Q => ∃ (c2 : C) (Ex : EX), c2.K = X.K ∧ LwC c2 T ∧ (∀ cls dd σ' H', WL c2 Ex cls dd σ' H' → E cls dd H') ∧ LE c2 (t Ex) σ H Q)
    hg hm F.kp lk hcd bF ⟨rfl, rfl, rfl, by decide +kernel, rfl, by decide +kernel, by decide +kernel⟩ rfl (.inl rfl)
    (gives_heard m1 m2 (fun s H c hc1 hc2 => e4 g cdv _ _ s H c ((hr.mono (by omega : 1 ≤ j)).deeper _) hc1 hc2) (fun s H => e3 g cdv _ _ s H)) TB hcode (by rw [hT, hq]; exact it.mem) (fun p hp e => by rw [hT] at hp; rw [it.uni p hp e, hq]) (hr.mono hk) L hdef hbind (fun A outer s H E f c' rm => ⟨fun pins s' σ H' Q I ⟨c2, Ex, e1, e0, e2, q⟩ => ?hb⟩)).weak (heard_coreT hT hkd hK hM h0 hcat e5)
  case hb => exact (hbody A outer s H E f c' c2 Ex rm e1 e0 ((takes_of rfl rfl rfl rfl).imp fun cls dd σ' H' z => e2 cls dd σ' H' z)).run pins s' σ H' Q I q
end
end DL
set_option maxHeartbeats 1000000
namespace BW
open PySem L2 DL
def fset (f : Nat → Nat → Int) (a b : Nat) (v : Int) : Nat → Nat → Int := fun i j => if i = a ∧ j = b then v else f i j
theorem fm_set {n : Nat} {f : Nat → Nat → Int} {a b : Nat} {v : Int} (ha : a < n) : (fm n f).set a (((fm n f).getD a []).set b v) = fm n (fset f a b v) := by
  have r1 : ((fm n f).getD a []).set b v = (List.range n).map fun j => fset f a b v a j := by
    rw [fm_row ha]
    refine set_range fun j hj => ?_
    unfold fset
    by_cases e : j = b
    · rw [if_pos e, if_pos ⟨rfl, e⟩]
    · rw [if_neg e, if_neg (by omega)]
  rw [r1]
  show ((List.range n).map fun i => (List.range n).map fun j => f i j).set a _ = _
  refine set_range fun i hi => ?_
  by_cases e : i = a
  · rw [if_pos e, e]
  · rw [if_neg e]
    refine List.map_congr_left fun j hj => ?_
    unfold fset
    rw [if_neg (by omega)]
theorem rep_row (n : Nat) (v : Int) : (List.replicate ((n : Int)).toNat [V.int v]).flatten = ((List.range n).map fun _ => v).map V.int := by
  rw [Int.toNat_natCast]
  induction n with
  | zero => rfl
  | succ n ih => rw [List.replicate_succ', List.flatten_append, ih, range_step, List.map_append]; rfl
abbrev tTwos : TE := tOp rRep (tLst (tCons (tC (V.int 2)) tNil)) (tVar 0)
theorem nest_tab3 {X0 : List Addr} {n : Nat} {σ : L2.St} {H : Hp} {Q : VK} (xs : ∀ a ∈ X0, H a ≠ none) (n6 : n ≤ 6) (e1 : σ[0]? = some (some (.int n)))
    (h : ∀ p qs H', Keep none X0 H H' → H p = none → (∀ q ∈ qs, H q = none) → Mx H' p qs (fm n fun _ _ => 2) → Q (.ref p) H') :
    tLc (iRng1 (tCons (tVar 0) tNil)) (gName 4) tYes tTwos [4] σ H Q := by
  refine ⟨_, e1, n, rfl, by omega, by omega, fun D hD => ?_⟩
  rw [Int.toNat_natCast]
  refine ⟨fun i m H' => m = n - i ∧ i ≤ n ∧ ∃ qs, Keep none X0 H H' ∧ (∀ q ∈ qs, H q = none) ∧ Mx H' D qs ((List.range i).map fun _ => (List.range n).map fun _ => 2), ⟨n, rfl, Nat.zero_le _, [], Keep.refl.new xs hD, fun _ h => (nomatch h), ⟨upd_same, rfl, fun i q r e => by simp at e, List.nodup_nil, by simp⟩⟩, ?_⟩
  rintro i m H' ⟨rfl, hi, qs, kp, fr, mx⟩
  by_cases hlt : i < n
  · refine .inr ⟨hlt, fun H'' => ∃ qs, Keep none X0 H H'' ∧ (∀ q ∈ qs, H q = none) ∧ Mx H'' D qs ((List.range (i + 1)).map fun _ => (List.range n).map fun _ => 2), fun H'' ⟨qs, q⟩ => ⟨n - (i + 1), by omega, rfl, hlt, qs, q⟩, ?_⟩
    rintro x H'' ⟨rfl, rfl⟩
    refine ⟨?_, ?_⟩
    · show ((σ.set 4 none).set 4 (some (V.int (0 + (i : Int))))).set 4 none = σ.set 4 none
      rw [List.set_set, List.set_set]
    · unfold tYes
      dsimp only
      rw [if_pos rfl]
      have e1' : ((σ.set 4 none).set 4 (some (V.int (0 + (i : Int)))))[0]? = some (some (.int n)) := by
        rw [List.getElem?_set_ne (by decide), List.getElem?_set_ne (by decide)]; exact e1
      refine ⟨by show 1 ≤ sizeLine; decide, fun T hT => ⟨_, e1', T, n, [V.int 2], rfl, rfl, upd_same, by omega, by omega, ?_, fun q hq => ?_⟩⟩
      · rw [Int.toNat_natCast]
        show 1 * n ≤ sizeLine
        exact Nat.le_trans (by omega : _ ≤ 6) (by decide)
      · have kT : Keep none X0 H (upd H'' T (.lst [V.int 2])) := kp.new xs hT
        have mT := mx.keepT (o := .lst [V.int 2]) hT
        have kq := kT.new (o := .lst ((List.replicate ((n : Int)).toNat [V.int 2]).flatten)) xs hq
        have mq := mT.keepT (o := .lst ((List.replicate ((n : Int)).toNat [V.int 2]).flatten)) hq
        refine ⟨qs.map V.ref, mq.top, by rw [List.length_map, mx.len, List.length_map, List.length_range]; exact Nat.lt_of_lt_of_le (by omega : i < 6) (by decide), qs ++ [q], kq.mut xs hD (.at_ mq.top), fun b hb => ?_, ?_⟩
        · rcases List.mem_append.mp hb with hb | hb
          · exact fr b hb
          · rw [List.mem_singleton.mp hb]
            exact kT.fresh (by simp [Ml]) hq
        · have s := mT.snoc (r := (List.range n).map fun _ => 2) hq
          rw [← rep_row, List.map_append] at s
          rw [range_step]
          exact s
  · have e : i = n := by omega
    subst e
    exact .inl ⟨Nat.le_refl _, h D qs H' kp hD fr mx⟩
theorem sub_tab {K : PySem.W.Frag} {σ : L2.St} {H : Hp} {Q : L2.St → Hp → Prop} {p : Addr} {qs : List Addr} {n : Nat} {f : Nat → Nat → Int} {t a b : Nat} {v : Int} {te1 te2 : TE} (mx : Mx H p qs (fm n f)) (ha : a < n) (hb : b < n) (e3 : σ[t]? = some (some (V.ref p))) (h1 : ∀ H R, R (V.int a) H → te1 σ H R) (h2 : ∀ H R, R (V.int b) H → te2 σ H R)
    (h : ∀ H', (∀ x o, x ∉ qs → H x = some o → H' x = some o) → TbK H H' → Mx H' p qs (fm n (fset f a b v)) → Q σ H') : gSub (tOp (rIxL K) (tVar t) te1) te2 rSetL (V.int v) σ H Q := by
  have ln := fm_len n f
  have l1 : ((fm n f).getD a []).length = n := by rw [fm_row ha, List.length_map, List.length_range]
  obtain ⟨q1, hq1⟩ : ∃ q, qs[a]? = some q := ⟨qs[a]'(by rw [mx.len]; omega), List.getElem?_eq_getElem _⟩
  have m1 : (fm n f)[a]? = some ((fm n f).getD a []) := getD_get (by omega)
  refine ⟨_, e3, h1 _ _ ⟨p, qs.map V.ref, _, .ref q1, rfl, rfl, SqL.of mx.top, atI_nat (by rw [List.getElem?_map, hq1]; rfl), ?_⟩⟩
  refine h2 _ _ ⟨q1, ((fm n f).getD a []).map V.int, _, b, rfl, rfl, mx.row a q1 _ hq1 m1, ixN_nat (j := b) (by rw [List.length_map, l1]; exact hb), ?_⟩
  have e1 : (((fm n f).getD a []).map V.int).set b (V.int v) = (((fm n f).getD a []).set b v).map V.int := by rw [List.map_set]
  rw [e1]
  have m2 := mx.set hq1 (((fm n f).getD a []).set b v)
  rw [fm_set ha] at m2
  exact h _ (fun x o hx ex => by rw [upd_ne (fun z => hx (by rw [z]; exact List.mem_of_getElem? hq1))]; exact ex) (TbK.at_ (mx.row a q1 _ hq1 m1)) m2
def gl (i : Nat) : Nat → Nat → Int := fun a b => if a = b ∧ a < i then 1 else if (a = b + 1 ∧ a < i) ∨ (b = a + 1 ∧ b < i) then 3 else 2
def lnM (n : Nat) (v : Int) : Mat := fm n (if 1 < n then fset (fset (gl n) 0 1 v) 1 0 v else gl n)
def spLine : Sp := fun vs H Q _ => ∃ (X0 : List Addr) (n : Nat) (v : Int), vs = [V.int n, V.int v] ∧ 1 ≤ n ∧ n ≤ 6 ∧ (∀ a ∈ X0, H a ≠ none) ∧ ∀ p qs H', Keep none X0 H H' → H p = none → (∀ q ∈ qs, H q = none) → Mx H' p qs (lnM n v) → Q (.ref p) H'
theorem gl_0 : gl 0 = fun _ _ => 2 := by
  funext a b
  unfold gl
  rw [if_neg (by omega), if_neg (by omega)]
theorem gl_1 : gl 1 = fset (gl 0) 0 0 1 := by
  funext a b
  unfold fset gl
  by_cases h : a = 0 ∧ b = 0
  · rw [if_pos h, if_pos (by omega)]
  · rw [if_neg h, if_neg (by omega), if_neg (by omega), if_neg (by omega), if_neg (by omega)]
theorem gl_s (i : Nat) : gl (i + 1 + 1) = fset (fset (fset (gl (i + 1)) (i + 1) (i + 1) 1) (i + 1) i 3) i (i + 1) 3 := by
  funext a b
  unfold fset gl
  by_cases h1 : a = i ∧ b = i + 1
  · rw [if_pos h1, if_neg (by omega), if_pos (by omega)]
  · rw [if_neg h1]
    by_cases h2 : a = i + 1 ∧ b = i
    · rw [if_pos h2, if_neg (by omega), if_pos (by omega)]
    · rw [if_neg h2]
      by_cases h3 : a = i + 1 ∧ b = i + 1
      · rw [if_pos h3, if_pos (by omega)]
      · rw [if_neg h3]
        by_cases h4 : a = b ∧ a < i + 1
        · rw [if_pos h4, if_pos (by omega)]
        · rw [if_neg h4, if_neg (by omega)]
          by_cases h5 : (a = b + 1 ∧ a < i + 1) ∨ (b = a + 1 ∧ b < i + 1)
          · rw [if_pos h5, if_pos (by omega)]
          · rw [if_neg h5, if_neg (by omega)]
structure SLn (n : Nat) (v : Int) (p : Addr) (σ : L2.St) : Prop where
  len : σ.length = 5
  e0 : σ[0]? = some (some (V.int n))
  e1 : σ[1]? = some (some (V.int v))
  e2 : σ[2]? = some (some (V.ref p))
theorem SLn.set {n : Nat} {v : Int} {p : Addr} {σ : L2.St} (h : SLn n v p σ) {i : Nat} (hi : 3 ≤ i) (x : Option V) : SLn n v p (σ.set i x) :=
  ⟨by rw [List.length_set]; exact h.len, by rw [List.getElem?_set_ne (by omega)]; exact h.e0, by rw [List.getElem?_set_ne (by omega)]; exact h.e1, by rw [List.getElem?_set_ne (by omega)]; exact h.e2⟩
theorem Keep.stores {X0 : List Addr} {H H1 H2 : Hp} {qs : List Addr} (k : Keep none X0 H H1) (xs : ∀ a ∈ X0, H a ≠ none) (hq : ∀ q ∈ qs, H q = none) (h : ∀ x o, x ∉ qs → H1 x = some o → H2 x = some o) (tb : TbK H1 H2) : Keep none X0 H H2 := by
  refine ⟨fun a o ha e t => h a o (fun z => by have := hq a z; rw [e] at this; cases this) (k.ob a o ha e t), k.tb.trans tb, fun a ha => ?_⟩
  cases e : H1 a with
  | none => rw [k.old a ha] at e; exact absurd e (xs a ha)
  | some o => exact (h a o (fun z => xs a ha (hq a z)) e).trans (e.symm.trans (k.old a ha))
def sp__law_line : DSp := fun ds k R => ∃ (n : Nat) (v : Int), ds = [.int n, .int v] ∧ 1 ≤ n ∧ n ≤ 6 ∧ R (lM (lnM n v)) k
theorem line_imp {K : PySem.W.Frag} {vs : List V} {H : Hp} {Q : VK} {E : XK} (h : spD K false sp__law_line vs H Q E) : spLine vs H Q E := by
  obtain ⟨M, X0, k, ds, ws, R, ⟨hM, hv⟩, ⟨xm, xs, hm, ar, xt⟩, ⟨n, v, rfl, n1, n6, hR⟩, fin⟩ := h
  subst hM
  have hv : vs = ws := hv
  subst hv
  obtain rfl : vs = [V.int n, V.int v] := by
    cases ar with
    | cons h1 h2 =>
      cases h2 with
      | cons h3 h4 => cases h4; cases h1.intE; cases h3.intE; rfl
  refine ⟨X0, n, v, rfl, n1, n6, xs, fun p qs H' kp hp hq mx => ?_⟩
  have hid : ∀ a, H a = none → a ∉ Ml (none : Option Mc) ++ X0 := fun a ha z => xs a (by simpa [Ml] using z) ha
  exact fin (lM (lnM n v)) k hR _ _ (kp.aft (K := K) trivial) (mx.rl (hid p hp) fun q h => hid q (hq q h))
end BW
set_option maxHeartbeats 1000000
namespace BW
open PySem PySem.Spec PyProof.Rows L2 DL
def forkM : Mat := fm 6 (fset (fset (fset (fset (if 1 < 6 then fset (fset (gl 6) 0 1 3) 1 0 3 else gl 6) 4 5 2) 5 4 2) 2 5 3) 5 2 3)
theorem lnM63 : lnM 6 3 = fm 6 (if 1 < 6 then fset (fset (gl 6) 0 1 3) 1 0 3 else gl 6) := rfl
structure CalL (P : Program) (w : World) (K : PySem.W.Frag) (mg : PySem.Str → Option Value) (base : Heap) (k : Nat) : Prop where
  ex : ∃ f fd, FnOk P w K mg base CX0 k f fd ["many", "first"] spLine ∧ mg "_law_line" = some (.ref f) ∧ PySem.W.keepIn K (.ref f) = true ∧ Binds K fd ["many", "first"] []
abbrev dFork (i : Nat) (body : DS) : DS := fun DD s => i < s.sl.length ∧ body DD (s.put i (.dat (lM forkM)))
abbrev gS (K : PySem.W.Frag) (i : Nat) (a b : Int) : TG := gSub (tOp (rIxL K) (tVar i) (tC (V.int a))) (tC (V.int b)) rSetL
section
variable {X : Cx} {c : C} {k j : Nat} {p pt px pc pos pos2 pt2 : Pos} {kt k2 : Nat} {x : PySem.Str} {e1 : Expr} {es vs ts : List Expr} {rest : List Stmt} {body : DS}
theorem psd_fork (i : Nat) (hN : X.N.Nodup) (hK : c.K = X.K) (hc : X.calm = true) (F : CalL X.prog X.w X.K X.mg X.base k) (hr : Room j X.A) (hk : k ≤ j)
    (ha : PA X (e1 :: es) (tCons (tC (V.int 6)) (tCons (tC (V.int 3)) tNil))) (hv : PA X vs (tCons (tC (V.int 2)) (tCons (tC (V.int 2)) (tCons (tC (V.int 3)) (tCons (tC (V.int 3)) tNil))))) (hg : PGs X ts (gCons (gS X.K i 4 5) (gCons (gS X.K i 5 4) (gCons (gS X.K i 2 5) (gCons (gS X.K i 5 2) gNil))))) (hrest : PSs X rest (LS c body))
    (hi : X.N[i]? = some x := by rfl) (hx : Loc X.env.scope x := by first | exact Or.inl rfl | exact Or.inr rfl) (hgl : Gl X "_law_line" := by rfl)
    (he : starEach (e1 :: es) X.env = (false, eval e1 X.env) :: starEach es X.env := by rfl) (hpl : (backTo pc (starEach es X.env)).any (·.1) = false := by rfl)
    (hs : swapsWith (.Call (.Name "_law_line" p) (e1 :: es) [] pc) (some (.Name x px)) pos.line X.env = pure false := by rfl) (hf : X.fn x = true ∨ X.env.scope.names.lookup x = some .local := by first | exact .inl rfl | exact .inr rfl)
    (hn : (assignEach ts X.env).length = 4 := by rfl) (hst : (assignEach ts X.env).findIdx? (·.1) = none := by rfl)
    (hs2 : swapsWithSole [.Tuple ts kt pt] (.Tuple vs k2 pt2) pos2.line X.env = pure false := by rfl) (hw : swappedStores [.Tuple ts kt pt] (.Tuple vs k2 pt2) X.env = pure none := by rfl)
    (hA : (assignEach [.Tuple ts kt pt] X.env).map (·.2) = [assign (.Tuple ts kt pt) X.env] := by rfl) :
    PSs X (.Assign [.Name x px] (.Call (.Name "_law_line" p) (e1 :: es) [] pc) pos :: .Assign [.Tuple ts kt pt] (.Tuple vs k2 pt2) pos2 :: rest) (LS c (dFork i body)) := by
  obtain ⟨f, fd, G, hm, kp, b⟩ := F.ex
  refine (pss_cons (ps_set hN hi hx (pe_call (E := E0) G (hr.mono hk) hgl hm kp b .nil pass0 ha (by decide) he hpl) hs hf) (pss_cons (ps_asg (pe_tup hv) (pg_tup hc hg hn hst) hs2 hw hA) hrest)).weak fun D σ H ⟨s, DD, rp, ⟨hil, q⟩, ft⟩ => ?_
  have hl : i < σ.length := by rw [← rp.len]; exact hil
  have xs : ∀ a ∈ Ml c.M ++ s.X, H a ≠ none := rp.allHid
  refine ⟨Ml c.M ++ s.X, 6, 3, rfl, by decide, by decide, xs, fun p qs H1 kp1 hp hq mx => ?_⟩
  rw [lnM63] at mx
  have e3 : (σ.set i (some (V.ref p)))[i]? = some (some (V.ref p)) := List.getElem?_set_self hl
  refine ⟨by show 4 ≤ sizeLine; decide, fun T hT => ⟨T, [.int 2, .int 2, .int 3, .int 3], rfl, SqT.of upd_same, rfl, _, _, rfl, ?_⟩⟩
  have mT := mx.keepT (o := .tup [V.int 2, V.int 2, V.int 3, V.int 3]) hT
  have kT : Keep none (Ml c.M ++ s.X) H (upd H1 T (.tup [V.int 2, V.int 2, V.int 3, V.int 3])) := kp1.new xs hT
  refine sub_tab (K := X.K) (a := 4) (b := 5) mT (by decide) (by decide) e3 (fun _ _ h => h) (fun _ _ h => h) fun H2 k2 b2 m2 => ⟨_, _, rfl, ?_⟩
  refine sub_tab (K := X.K) (a := 5) (b := 4) m2 (by decide) (by decide) e3 (fun _ _ h => h) (fun _ _ h => h) fun H3 k3 b3 m3 => ⟨_, _, rfl, ?_⟩
  refine sub_tab (K := X.K) (a := 2) (b := 5) m3 (by decide) (by decide) e3 (fun _ _ h => h) (fun _ _ h => h) fun H4 k4 b4 m4 => ⟨_, _, rfl, ?_⟩
  refine sub_tab (K := X.K) (a := 5) (b := 2) m4 (by decide) (by decide) e3 (fun _ _ h => h) (fun _ _ h => h) fun H5 k5 b5 m5 => ⟨rfl, ?_⟩
  have kf := Keep.stores (Keep.stores (Keep.stores (Keep.stores kT xs hq k2 b2) xs hq k3 b3) xs hq k4 b4) xs hq k5 b5
  have af : Aft c.K none (Ml c.M ++ s.X) H H5 0 := kf.aft trivial
  have z := Rep.after (s := s) rp ⟨af.sub, af.old, af.m, af.tb⟩
  have hid : ∀ a, H a = none → a ∉ Ml c.M ++ s.X := fun a ha z => xs a z ha
  have rl : Rl c.K (c.hid s.X H5) (.ref p) (lM forkM) := m5.rl (hid p hp) fun q h => hid q (hq q h)
  exact ⟨_, DD, z.1.putD (i := i) rl, q, ft.on z.2.sub⟩
end
end BW
set_option autoImplicit false
set_option maxHeartbeats 1000000
namespace BW
open PySem L2 DL
open TT (sm sm_congr)
def lkM : List (List Int × List Int) → List Int → Option (List Int)
  | [], _ => none
  | (c, L) :: A, J => if c = J then some L else lkM A J
def lksM (A : List (List Int × List Int)) (n : Nat) : List (List Int) → Option (List (Int × List Int))
  | [] => some []
  | J :: Js => match lkM A J with
    | some L => match lksM A n Js with
      | some R => some ((-(sgn (n - J.length)), L) :: R)
      | none => none
    | none => none
def qAll (T : Mat) (m : Nat) : List (List Int) → List (List Int × List Int) → Option (List (List Int × List Int))
  | [], A => some A
  | [] :: cs, A => qAll T m cs (([], 1 :: List.replicate m 0) :: A)
  | (a :: l) :: cs, A => match lksM A (a :: l).length (prop (a :: l)) with
    | some P => qAll T m cs ((a :: l, oneL P (sgn (a :: l).length) (lgN T (a :: l)) m) :: A)
    | none => none
def ncM (T : Mat) (m : Nat) : Option (List Int) := match qAll T m (subl (ltrs T.length)) [] with
  | some A => match lkM A (ltrs T.length) with
    | some q => some (invF q m)
    | none => none
  | none => none
section
variable {T : Mat} {m : Nat}
def OkM (T : Mat) (m : Nat) (A : List (List Int × List Int)) : Prop := ∀ x ∈ A, x.2 = (List.range (m + 1)).map (qs T x.1)
theorem lkM_ok : ∀ {A : List (List Int × List Int)} {J L : List Int}, OkM T m A → lkM A J = some L → L = (List.range (m + 1)).map (qs T J)
  | [], J, L, _, e => nomatch e
  | (c, K) :: A, J, L, h, e => by
    unfold lkM at e
    by_cases q : c = J
    · rw [if_pos q] at e
      cases e
      rw [← q]
      exact h _ List.mem_cons_self
    · rw [if_neg q] at e
      exact lkM_ok (fun x hx => h x (List.mem_cons_of_mem _ hx)) e
theorem lksM_ok {A : List (List Int × List Int)} {n : Nat} (h : OkM T m A) : ∀ {Js : List (List Int)} {P : List (Int × List Int)}, lksM A n Js = some P → P = Js.map fun J => (-(sgn (n - J.length)), (List.range (m + 1)).map (qs T J))
  | [], P, e => by cases e; rfl
  | J :: Js, P, e => by
    unfold lksM at e
    cases e1 : lkM A J with
    | none => rw [e1] at e; cases e
    | some L =>
      rw [e1] at e
      cases e2 : lksM A n Js with
      | none => rw [e2] at e; cases e
      | some R =>
        rw [e2] at e
        cases e
        rw [List.map_cons, ← lksM_ok h e2, ← lkM_ok h e1]
theorem qAll_ok (ht : Tab T) (m60 : m ≤ 60) : ∀ {cs : List (List Int)} {A B : List (List Int × List Int)}, (∀ c ∈ cs, Wd T.length c) → OkM T m A → qAll T m cs A = some B → OkM T m B
  | [], A, B, _, h, e => by cases e; exact h
  | [] :: cs, A, B, hc, h, e => by
    unfold qAll at e
    refine qAll_ok ht m60 (fun c hm => hc c (List.mem_cons_of_mem _ hm)) (fun x hx => ?_) e
    rcases List.mem_cons.mp hx with rfl | hx
    · exact ones_ok m
    · exact h x hx
  | (a :: l) :: cs, A, B, hc, h, e => by
    unfold qAll at e
    cases e1 : lksM A (a :: l).length (prop (a :: l)) with
    | none => rw [e1] at e; cases e
    | some P =>
      rw [e1] at e
      refine qAll_ok ht m60 (fun c hm => hc c (List.mem_cons_of_mem _ hm)) (fun x hx => ?_) e
      rcases List.mem_cons.mp hx with rfl | hx
      · rw [lksM_ok h e1]
        exact one_ok ht (hc _ List.mem_cons_self) (List.cons_ne_nil _ _) m60 m (Nat.le_refl _)
      · exact h x hx
theorem ncM_ok (ht : Tab T) (m60 : m ≤ 60) {v : List Int} (e : ncM T m = some v) : v = (List.range (m + 1)).map (nc T (ltrs T.length)) := by
  unfold ncM at e
  cases e1 : qAll T m (subl (ltrs T.length)) [] with
  | none => rw [e1] at e; cases e
  | some A =>
    rw [e1] at e
    dsimp only at e
    have h := qAll_ok ht m60 (fun c hc a ha => wd_ltrs _ a (subl_sub hc a ha)) (fun x hx => absurd hx (by simp)) e1
    cases e2 : lkM A (ltrs T.length) with
    | none => rw [e2] at e; cases e
    | some q =>
      rw [e2] at e
      cases e
      rw [lkM_ok h e2]
      exact invF_ok m (Nat.le_refl _)
end
def sumM (T : Mat) (m : Nat) : Int := match ncM T m with
  | some v => v.sum
  | none => 0
end BW
set_option autoImplicit false
set_option maxHeartbeats 1000000
namespace BW
open PySem L2 DL
abbrev TE6 : Mat := [[1, 3, 2, 2, 2, 2], [3, 1, 3, 2, 2, 2], [2, 3, 1, 3, 2, 3], [2, 2, 3, 1, 3, 2], [2, 2, 2, 3, 1, 2], [2, 2, 3, 2, 2, 1]]
abbrev TA6 : Mat := [[1, 3, 2, 2, 2, 2], [3, 1, 3, 2, 2, 2], [2, 3, 1, 3, 2, 2], [2, 2, 3, 1, 3, 2], [2, 2, 2, 3, 1, 3], [2, 2, 2, 2, 3, 1]]
abbrev TB6 : Mat := [[1, 4, 2, 2, 2, 2], [4, 1, 3, 2, 2, 2], [2, 3, 1, 3, 2, 2], [2, 2, 3, 1, 3, 2], [2, 2, 2, 3, 1, 3], [2, 2, 2, 2, 3, 1]]
abbrev TB5 : Mat := [[1, 4, 2, 2, 2], [4, 1, 3, 2, 2], [2, 3, 1, 3, 2], [2, 2, 3, 1, 3], [2, 2, 2, 3, 1]]
abbrev TA5 : Mat := [[1, 3, 2, 2, 2], [3, 1, 3, 2, 2], [2, 3, 1, 3, 2], [2, 2, 3, 1, 3], [2, 2, 2, 3, 1]]
abbrev TF4 : Mat := [[1, 3, 2, 2], [3, 1, 4, 2], [2, 4, 1, 3], [2, 2, 3, 1]]
theorem sum_E6 : sumM TE6 36 = 51840 := by decide +kernel
theorem sum_A6 : sumM TA6 21 = 5040 := by decide +kernel
theorem sum_B6 : sumM TB6 36 = 46080 := by decide +kernel
theorem sum_B5 : sumM TB5 25 = 3840 := by decide +kernel
theorem sum_A5 : sumM TA5 15 = 720 := by decide +kernel
theorem sum_F4 : sumM TF4 24 = 1152 := by decide +kernel
end BW
set_option autoImplicit false
set_option maxHeartbeats 1000000
namespace BW
open PySem L2 DL
theorem fl_sum : ∀ a ∈ FL, ∀ b ∈ FL, 1 ≤ a.1.length → a.1.length + b.1.length ≤ 6 → sumM (prodM a.1 b.1) (a.2.2 + b.2.2).toNat = a.2.1 * b.2.1 := by decide +kernel
end BW
set_option autoImplicit false
set_option maxHeartbeats 1000000
namespace BW
open PySem L2 DL
open TT (sm sm_congr)
def spX_size (BC : Addr) : DSpX := fun ds k R E => ∃ T, ds = [bnd BC T] ∧ Tab T ∧ ((∃ u, lgF T (ltrs T.length) 61 (one T) [] = some u ∧ R (.int (sm (nc T (ltrs T.length)) 61)) k) ∨ (lgF T (ltrs T.length) 61 (one T) [] = none ∧ E (.exc "Endless" [] []) k))
abbrev tX_size (BC : Addr) (Ex : EX) : DS := (dSeq (dIfS (dNot (dTru (dCall (sp_is_finite BC) (dCons (dVar 0) dNil)))) (dRaise0 "Endless" Ex) dNext)
  (dRet (dSumT (dCallT (sp_counts BC) (dCons (dVar 0) (dCons (dC (.int (60))) dNil))))))
theorem rX_size (BC : Addr) (X : List Addr) (ds : List D) (k : Nat) (R E : D → Nat → Prop) (h : spX_size BC ds k R E) : tX_size BC (fun d s => E d s.k) (En R) (St0 false 1 ds X k) := by
  obtain ⟨T, rfl, ht, h⟩ := h
  refine ⟨_, rfl, T, rfl, ht, _, rfl, ?_⟩
  rcases h with ⟨u, e, h⟩ | ⟨e, h⟩
  · rw [e]
    refine iteF fun X' => ⟨_, rfl, T, 60, rfl, ht, by decide, (List.range 61).map (nc T (ltrs T.length)), rfl, ?_⟩
    rw [sum_rng]
    exact h
  · rw [e]
    exact iteT h
theorem sumM_ok {T : Mat} (ht : Tab T) {m : Nat} (m60 : m ≤ 60) {w : Int} (e : sumM T m = w) (hw : w ≠ 0) : sm (nc T (ltrs T.length)) (m + 1) = w := by
  unfold sumM at e
  cases e1 : ncM T m with
  | none => rw [e1] at e; exact absurd e.symm hw
  | some v =>
    rw [e1] at e
    have := ncM_ok ht m60 e1
    have e : v.sum = w := e
    rw [← e, this, sum_rng]
structure Sz (T : Mat) (w : Int) (N : Nat) : Prop where
  ht : Tab T
  ex : ∃ u, lgF T (ltrs T.length) 61 (one T) [] = some u
  s61 : sm (nc T (ltrs T.length)) 61 = w
  sN : sm (nc T (ltrs T.length)) (N + 1) = w
theorem sz_of {M T : Mat} {f g : Int → Int} (hM : Tab M) (hT : Tab T) (iso : Iso T M f g) {N : Nat} {w : Int} (hl : lgB M (N : Int) = true) (hs : sumM M N = w) (hw : w ≠ 0) (hN : N ≤ 59) : Sz T w N := by
  unfold lgB at hl
  cases e : lgF M (ltrs M.length) 61 (one M) [] with
  | none => rw [e] at hl; cases hl
  | some z =>
    rw [e] at hl
    have hl : (z.length : Int) = N := of_decide_eq_true hl
    obtain ⟨y, y1, _, _, _, y5⟩ := iso.symm.lg hM hT (wd_ltrs _) (wd_ltrs _) (iso_ltrs iso.symm) e
    obtain ⟨lz, le⟩ := lgst_of hT y1
    have sN : sm (nc T (ltrs T.length)) (N + 1) = w := by
      rw [← sumM_ok hM (by omega) hs hw]
      exact sm_congr fun i _ => (iso.ncs hT hM i).symm
    refine ⟨hT, ⟨y, y1⟩, ?_, sN⟩
    rw [sm_over hT lz 61 (by omega), show (lw T y).length = N by omega]
    exact sN
theorem fl_w : ∀ a ∈ FL, ∀ b ∈ FL, 1 ≤ a.2.1 * b.2.1 ∧ a.2.1 * b.2.1 ≤ 100000 := by decide +kernel
theorem FinT.sz {T : Mat} {w l : Int} (h : FinT 6 T w l) : ∃ L : Nat, l = (L : Int) ∧ L ≤ 24 ∧ Sz T w L ∧ 1 ≤ w ∧ w ≤ 100000 := by
  have ht := h.tab (by decide)
  obtain ⟨a, b, o, ha, hb, h1, h2, ho, rfl, rfl, rfl⟩ := h.h
  have q := fl_lg a ha b hb h1 h2
  have q2 := fl_le a ha b hb
  have qw := fl_w a ha b hb
  have n0 : ∀ a ∈ FL, (0 : Int) ≤ a.2.2 := by decide +kernel
  have na := n0 a ha
  have nb := n0 b hb
  have hM := tabB_ok (prod_tabs a ha b hb h1 (by omega))
  have iso : Iso (shf (prodM a.1 b.1) o) (prodM a.1 b.1) (fO o) (gO o) := shf_iso (by rw [prod_len]; exact ho)
  have eL : ((a.2.2 + b.2.2).toNat : Int) = a.2.2 + b.2.2 := by omega
  refine ⟨(a.2.2 + b.2.2).toNat, eL.symm, by omega, sz_of hM ht iso (by rw [eL]; exact q) (fl_sum a ha b hb h1 h2) (by omega) (by omega), qw.1, qw.2⟩
structure Kn55 (M : Mat) (w : Int) : Prop where
  ht : Tab M
  le : M.length ≤ 6
  ex : ∃ N : Nat, N ≤ 59 ∧ lgB M (N : Int) = true ∧ sumM M N = w
  w1 : 1 ≤ w
  w2 : w ≤ 100000
theorem kn_A6 : Kn55 (lnM 6 3) 5040 := by
  rw [show lnM 6 3 = TA6 by decide +kernel]
  exact ⟨tabB_ok (by decide +kernel), by decide, ⟨21, by decide, by decide +kernel, sum_A6⟩, by decide, by decide⟩
theorem kn_B6 : Kn55 (lnM 6 4) 46080 := by
  rw [show lnM 6 4 = TB6 by decide +kernel]
  exact ⟨tabB_ok (by decide +kernel), by decide, ⟨36, by decide, by decide +kernel, sum_B6⟩, by decide, by decide⟩
theorem kn_B5 : Kn55 (lnM 5 4) 3840 := by
  rw [show lnM 5 4 = TB5 by decide +kernel]
  exact ⟨tabB_ok (by decide +kernel), by decide, ⟨25, by decide, by decide +kernel, sum_B5⟩, by decide, by decide⟩
theorem kn_A5 : Kn55 (lnM 5 3) 720 := by
  rw [show lnM 5 3 = TA5 by decide +kernel]
  exact ⟨tabB_ok (by decide +kernel), by decide, ⟨15, by decide, by decide +kernel, sum_A5⟩, by decide, by decide⟩
theorem kn_E6 : Kn55 forkM 51840 := by
  rw [show forkM = TE6 by decide +kernel]
  exact ⟨tabB_ok (by decide +kernel), by decide, ⟨36, by decide, by decide +kernel, sum_E6⟩, by decide, by decide⟩
theorem kn_F4 : Kn55 TF4 1152 := ⟨tabB_ok (by decide +kernel), by decide, ⟨24, by decide, by decide +kernel, sum_F4⟩, by decide, by decide⟩
theorem kn_shf {M : Mat} {w : Int} (h : Kn55 M w) {o : List Nat} (ho : o.Perm (List.range M.length)) (hT : Tab (shf M o)) : ∃ N, Sz (shf M o) w N := by
  obtain ⟨N, h1, h2, h3⟩ := h.ex
  have := h.w1
  exact ⟨N, sz_of h.ht hT (shf_iso ho) h2 h3 (by omega) h1⟩
abbrev t_la55 : DS := (dAsg (dCallM 1 sp__law_finite (dCons (dC (.int 6)) dNil)) (dgLst 3 (dgCons (dgN 3) (dgCons (dgN 4) (dgCons (dgN 5) dgNil)))))
abbrev t_lb55 (BC : Addr) : DS := (dIfS (dOr (dNot (dTru (dCall sp__law_likeE (dCons (dCallT (sp_size BC) (dCons (dCall (sp_Bonds BC) (dCons (dVar 3) dNil)) dNil)) (dCons (dVar 4) dNil))))) (dTB (dOp oNe (dSumT (dCallT (sp_counts BC) (dCons (dCall (sp_Bonds BC) (dCons (dVar 3) dNil)) (dCons (dVar 5) dNil)))) (dVar 4)))) (dRet (dC (.bl false))) dNext)
abbrev t_lc55 : DS := (dSet 6 (dFr (dLs (dCons (dTup (dCons (dCall sp__law_line (dCons (dC (.int 6)) (dCons (dC (.int 3)) dNil))) (dCons (dC (.int 5040)) dNil))) (dCons (dTup (dCons (dCall sp__law_line (dCons (dC (.int 6)) (dCons (dC (.int 4)) dNil))) (dCons (dC (.int 46080)) dNil))) (dCons (dTup (dCons (dCall sp__law_line (dCons (dC (.int 5)) (dCons (dC (.int 4)) dNil))) (dCons (dC (.int 3840)) dNil))) (dCons (dTup (dCons (dCall sp__law_line (dCons (dC (.int 5)) (dCons (dC (.int 3)) dNil))) (dCons (dC (.int 720)) dNil))) dNil)))))))
abbrev t_ld55 : DS := (dSet 8 (dFr (dLs (dCons (dFr (dLs (dCons (dC (.int 1)) (dCons (dC (.int 3)) (dCons (dC (.int 2)) (dCons (dC (.int 2)) dNil)))))) (dCons (dFr (dLs (dCons (dC (.int 3)) (dCons (dC (.int 1)) (dCons (dC (.int 4)) (dCons (dC (.int 2)) dNil)))))) (dCons (dFr (dLs (dCons (dC (.int 2)) (dCons (dC (.int 4)) (dCons (dC (.int 1)) (dCons (dC (.int 3)) dNil)))))) (dCons (dFr (dLs (dCons (dC (.int 2)) (dCons (dC (.int 2)) (dCons (dC (.int 3)) (dCons (dC (.int 1)) dNil)))))) dNil)))))))
abbrev t_le55 : DS := (dSet 6 (dOp oAdd (dVar 6) (dFr (dLs (dCons (dTup (dCons (dVar 7) (dCons (dC (.int 51840)) dNil))) (dCons (dTup (dCons (dVar 8) (dCons (dC (.int 1152)) dNil))) dNil))))))
abbrev t_lf55 : DS := (dAsg (dIxN 6 (dCallM 1 sp__law_draw (dCons (dC (.int 6)) dNil))) (dgTup 2 (dgCons (dgN 3) (dgCons (dgN 9) dgNil))))
abbrev t_lg55 (BC : Addr) : DS := (dIfS (dNot (dTru (dCall sp__law_likeE (dCons (dCallT (sp_size BC) (dCons (dCall (sp_Bonds BC) (dCons (dCallM 1 sp__law_shuffled (dCons (dVar 3) dNil)) dNil)) dNil)) (dCons (dVar 9) dNil))))) (dRet (dC (.bl false))) dNext)
abbrev t_lh55 : DS := (dSet 3 (dCallM 1 sp__law_tableS (dCons (dOp oAdd (dC (.int 2)) (dCallM 1 sp__law_draw (dCons (dC (.int 4)) dNil))) (dCons (dFr (dLs (dCons (dC (.int 0)) (dCons (dC (.int 3)) (dCons (dC (.int 6)) (dCons (dC (.int 4)) (dCons (dC (.int 3)) (dCons (dC (.int 2)) dNil)))))))) dNil))))
abbrev t_li55 (BC : Addr) : DS := (dSet 10 (dTold NHD sp__law_heard (fun Ex => (dCallXT (spX_size BC) Ex (dCons (dCall (sp_Bonds BC) (dCons (dVar 3) dNil)) dNil)))))
abbrev t_lj55 (BC : Addr) : DS := (dIfS (dOr (dTB (dOp oNe (dCall (sp_is_finite BC) (dCons (dCall (sp_Bonds BC) (dCons (dVar 3) dNil)) dNil)) (dIsi "list" (dVar 10)))) (dAnd (dNot (dTru (dIsi "list" (dVar 10)))) (dTB (dOp oNe (dVar 10) (dC (.str "endless")))))) (dRet (dC (.bl false))) dNext)
abbrev t_lk55 (BC : Addr) : DS := (dRet (dAndV (dOp oEq (dCallT (sp_size BC) (dCons (dCall (sp_Bonds BC) (dCons (dFr (dLs (dCons (dFr (dLs (dCons (dC (.int 1)) dNil))) dNil))) dNil)) dNil)) (dC (.int 2))) (dOp oEq (dTold NHD sp__law_heard (fun Ex => (dCallXT (spX_size BC) Ex (dCons (dCall (sp_Bonds BC) (dCons (dFr (dLs (dCons (dFr (dLs (dCons (dC (.int 1)) (dCons (dC (.int 0)) dNil)))) (dCons (dFr (dLs (dCons (dC (.int 0)) (dCons (dC (.int 1)) dNil)))) dNil)))) dNil)) dNil)))) (dC (.str "endless")))))
abbrev t_law55 (BC : Addr) (K : PySem.W.Frag) : DS := (dSeq (dFor (iR1 (dC (.int 3))) (dgN 2) (dSeq t_la55 (t_lb55 BC)))
  (dSeq t_lc55 (dFork 7 (dSeq t_ld55 (dSeq t_le55 (dSeq t_lf55 (dSeq (t_lg55 BC) (dSeq t_lh55 (dSeq (t_li55 BC) (dSeq (t_lj55 BC) (t_lk55 BC)))))))))))
abbrev prK (M : Mat) (w : Int) : D := .tup [lM M, .int w]
abbrev rows55 : List D := [prK (lnM 6 3) 5040, prK (lnM 6 4) 46080, prK (lnM 5 4) 3840, prK (lnM 5 3) 720, prK forkM 51840, prK TF4 1152]
theorem pick55 {z : Int} (z0 : 0 ≤ z) (z1 : z < 6) : ∃ M w, atI rows55 z = some (prK M w) ∧ Kn55 M w := by
  rcases (by omega : z = 0 ∨ z = 1 ∨ z = 2 ∨ z = 3 ∨ z = 4 ∨ z = 5) with rfl | rfl | rfl | rfl | rfl | rfl
  · exact ⟨_, _, rfl, kn_A6⟩
  · exact ⟨_, _, rfl, kn_B6⟩
  · exact ⟨_, _, rfl, kn_B5⟩
  · exact ⟨_, _, rfl, kn_A5⟩
  · exact ⟨_, _, rfl, kn_E6⟩
  · exact ⟨_, _, rfl, kn_F4⟩
theorem sqr_tab {M : Mat} (ht : Tab M) : ∀ i, i < M.length → (M.getD i []).length = M.length := by
  intro i hi
  exact ht.sq i hi
theorem told_sz {BC : Addr} {T : Mat} {s : S} {Q : D → Nat → Prop} {t : DA} (ht : Tab T) (h1 : ∀ u, lgF T (ltrs T.length) 61 (one T) [] = some u → Q (.lst [.int (sm (nc T (ltrs T.length)) 61)]) s.k) (h2 : lgF T (ltrs T.length) 61 (one T) [] = none → Q (.str "endless") s.k) (ha : ∀ R' : List D → Nat → Prop, R' [bnd BC T] s.k → t s.nOwn R') : dTold NHD sp__law_heard (fun Ex => dCallXT (spX_size BC) Ex t) s Q := by
  refine ha _ ⟨T, rfl, ht, ?_⟩
  cases e : lgF T (ltrs T.length) 61 (one T) [] with
  | some u => exact .inl ⟨u, rfl, h1 u e⟩
  | none => exact .inr ⟨rfl, ⟨_, _, _, rfl, by decide⟩, _, _, _, rfl, by decide, .inr (.inr ⟨"endless", by decide, rfl, rfl, h2 e⟩)⟩
section
variable {BC : Addr} {DD : DEnds} {T M : Mat} {w l : Int} {L : Nat} {X : List Addr} {k : Nat} {x2 x3 x4 x5 x6 x7 x8 x9 x10 : Sl}
theorem r_la55 (hk : k < 70000000000) (fin : ∀ T w l k', FinT 6 T w l → k ≤ k' → k' ≤ k + 10 → DD.nx ⟨X, [.no, .mst, x2, .dat (lM T), .dat (.int w), .dat (.int l), x6, x7, x8, x9, x10], k'⟩) : t_la55 DD ⟨X, [.no, .mst, x2, x3, x4, x5, x6, x7, x8, x9, x10], k⟩ :=
  ⟨rfl, 6, rfl, by decide, by decide, by show k < _; omega, fun T w l k' hf a b => ⟨rfl, rfl, fin T w l k' hf a b⟩⟩
theorem r_lb55 (h : Sz T w L) (l24 : L ≤ 24) (w1 : 1 ≤ w) (w2 : w ≤ 100000) (fin : DD.nx ⟨X, [.no, .mst, x2, .dat (lM T), .dat (.int w), .dat (.int (L : Nat)), x6, x7, x8, x9, x10], k⟩) : t_lb55 BC DD ⟨X, [.no, .mst, x2, .dat (lM T), .dat (.int w), .dat (.int (L : Nat)), x6, x7, x8, x9, x10], k⟩ := by
  obtain ⟨u, hu⟩ := h.ex
  refine ⟨_, rfl, T, rfl, h.ht, T, u, rfl, h.ht, hu, ?_⟩
  rw [h.s61]
  refine ⟨_, rfl, .int w, rfl, shwO_int (small_log (by omega)), _, rfl, iteF ?_⟩
  refine ⟨_, rfl, T, rfl, h.ht, _, rfl, T, L, rfl, h.ht, by omega, (List.range (L + 1)).map (nc T (ltrs T.length)), rfl, ?_⟩
  rw [sum_rng, h.sN]
  refine ⟨_, rfl, ?_⟩
  refine ne_int ?_
  exact ⟨_, rfl, iteF fin⟩
theorem r_lc55 (fin : DD.nx ⟨X, [.no, .mst, x2, x3, x4, x5, .dat (.lst [prK (lnM 6 3) 5040, prK (lnM 6 4) 46080, prK (lnM 5 4) 3840, prK (lnM 5 3) 720]), x7, x8, x9, x10], k⟩) : t_lc55 DD ⟨X, [.no, .mst, x2, x3, x4, x5, x6, x7, x8, x9, x10], k⟩ :=
  ⟨6, 3, rfl, by decide, by decide, by show 2 ≤ lim; decide, 6, 4, rfl, by decide, by decide, by show 2 ≤ lim; decide, 5, 4, rfl, by decide, by decide, by show 2 ≤ lim; decide, 5, 3, rfl, by decide, by decide, by show 2 ≤ lim; decide, by show 4 ≤ lim; decide, fin⟩
theorem r_ld55 (fin : DD.nx ⟨X, [.no, .mst, x2, x3, x4, x5, x6, x7, .dat (lM TF4), x9, x10], k⟩) : t_ld55 DD ⟨X, [.no, .mst, x2, x3, x4, x5, x6, x7, x8, x9, x10], k⟩ :=
  ⟨by show 4 ≤ lim; decide, by show 4 ≤ lim; decide, by show 4 ≤ lim; decide, by show 4 ≤ lim; decide, by show 4 ≤ lim; decide, fin⟩
theorem r_le55 (fin : DD.nx ⟨X, [.no, .mst, x2, x3, x4, x5, .dat (.lst rows55), .dat (lM forkM), .dat (lM TF4), x9, x10], k⟩) : t_le55 DD ⟨X, [.no, .mst, x2, x3, x4, x5, .dat (.lst [prK (lnM 6 3) 5040, prK (lnM 6 4) 46080, prK (lnM 5 4) 3840, prK (lnM 5 3) 720]), .dat (lM forkM), .dat (lM TF4), x9, x10], k⟩ :=
  ⟨_, rfl, _, rfl, by show 2 ≤ lim; decide, _, rfl, by show 2 ≤ lim; decide, by show 2 ≤ lim; decide, by show 4 + 2 ≤ lim; decide, fin⟩
theorem r_lf55 (hk : k < 80000000000) (fin : ∀ M w, Kn55 M w → DD.nx ⟨X, [.no, .mst, x2, .dat (lM M), x4, x5, .dat (.lst rows55), x7, x8, .dat (.int w), x10], k + 1⟩) : t_lf55 DD ⟨X, [.no, .mst, x2, x3, x4, x5, .dat (.lst rows55), x7, x8, x9, x10], k⟩ := by
  refine ⟨_, rfl, rfl, 6, rfl, by decide, by decide, by show k < _; omega, fun z z0 z1 => ?_⟩
  exact Exists.elim (pick55 z0 z1) fun M h => Exists.elim h fun w h => ⟨z, prK M w, rfl, h.1, rfl, rfl, fin M w h.2⟩
theorem r_lg55 (h : Kn55 M w) (hk : k < 80000000000) (fin : ∀ k', k ≤ k' → k' ≤ k + 6 → DD.nx ⟨X, [.no, .mst, x2, .dat (lM M), x4, x5, x6, x7, x8, .dat (.int w), x10], k'⟩) : t_lg55 BC DD ⟨X, [.no, .mst, x2, .dat (lM M), x4, x5, x6, x7, x8, .dat (.int w), x10], k⟩ := by
  have l6 := h.le
  have w1 := h.w1
  have w2 := h.w2
  refine ⟨rfl, _, rfl, M.length, M, rfl, ⟨rfl, sqr_tab h.ht⟩, by omega, by show k < _; omega, fun o k' ho a b => ?_⟩
  have hT : Tab (shf M o) := shf_tab h.ht ho
  obtain ⟨N, sz⟩ := kn_shf h ho hT
  obtain ⟨u, hu⟩ := sz.ex
  refine ⟨shf M o, rfl, hT, shf M o, u, rfl, hT, hu, ?_⟩
  rw [sz.s61]
  exact ⟨_, rfl, .int w, rfl, shwO_int (small_log (by omega)), _, rfl, iteF (fin k' a (by have b : k' ≤ k + M.length := b; omega))⟩
theorem r_lh55 (hk : k < 80000000000) (fin : ∀ (T : Mat) (k' : Nat), Tab T → k ≤ k' → k' ≤ k + 50 → DD.nx ⟨X, [.no, .mst, x2, .dat (lM T), x4, x5, x6, x7, x8, x9, x10], k'⟩) : t_lh55 DD ⟨X, [.no, .mst, x2, x3, x4, x5, x6, x7, x8, x9, x10], k⟩ := by
  refine ⟨rfl, rfl, 4, rfl, by decide, by decide, by show k < _; omega, fun d d0 d1 => ?_⟩
  obtain ⟨n, hn, n1, n5⟩ : ∃ n : Nat, 2 + d = (n : Int) ∧ 1 ≤ n ∧ n ≤ 5 := ⟨(2 + d).toNat, by omega, by omega, by omega⟩
  refine ⟨by show 6 ≤ lim; decide, n, [0, 3, 6, 4, 3, 2], by rw [← hn]; rfl, n1, by omega, by simp, by decide, ?_, by show k + 1 < _; omega, fun T k' ht hT a b => have a : k + 1 ≤ k' := a; have b : k' ≤ k + 1 + 40 := b; fin T k' ht (by omega) (by omega)⟩
  intro z hz
  simp only [List.mem_cons, List.not_mem_nil, or_false] at hz
  rcases hz with rfl | rfl | rfl | rfl | rfl | rfl <;> decide
theorem r_lij55 (ht : Tab T) (fin : ∀ x10, DD.nx ⟨X, [.no, .mst, x2, .dat (lM T), x4, x5, x6, x7, x8, x9, x10], k⟩) : (dSeq (t_li55 BC) (t_lj55 BC)) DD ⟨X, [.no, .mst, x2, .dat (lM T), x4, x5, x6, x7, x8, x9, x10], k⟩ := by
  have key : dTold NHD sp__law_heard (fun Ex => dCallXT (spX_size BC) Ex (dCons (dCall (sp_Bonds BC) (dCons (dVar 3) dNil)) dNil)) (⟨X, [.no, .mst, x2, .dat (lM T), x4, x5, x6, x7, x8, x9, x10], k⟩ : S) (fun d k' => (t_lj55 BC) DD ((S.put ⟨X, [.no, .mst, x2, .dat (lM T), x4, x5, x6, x7, x8, x9, x10], k⟩ 10 (.dat d)).at k')) := ?key
  · exact key
  refine told_sz (BC := BC) (T := T) ht (fun u e => ?_) (fun e => ?_) (fun R' h => ⟨_, rfl, T, rfl, ht, h⟩)
  · refine ⟨_, rfl, T, rfl, ht, T, rfl, ht, _, rfl, "list", true, rfl, by decide, ?_⟩
    rw [e]
    refine ⟨rfl, rfl, false, congrArg D.bl (by show (!(D.bl true).py.eqv (D.bl true).py) = false; decide +kernel), iteF ?_⟩
    exact ⟨_, rfl, "list", true, rfl, by decide, _, rfl, iteF (iteF (fin _))⟩
  · refine ⟨_, rfl, T, rfl, ht, T, rfl, ht, _, rfl, "str", false, rfl, by decide, ?_⟩
    rw [e]
    refine ⟨rfl, rfl, false, congrArg D.bl (by decide +kernel), iteF ?_⟩
    exact ⟨_, rfl, "str", false, rfl, by decide, _, rfl, iteT ⟨_, rfl, false, congrArg D.bl (by decide +kernel), iteF (fin _)⟩⟩
theorem l20 : lgF T20 (ltrs T20.length) 61 (one T20) [] = none := by decide +kernel
theorem l11 : lgF T11 (ltrs T11.length) 61 (one T11) [] = some [1] := by decide +kernel
theorem s11 : sm (nc T11 (ltrs T11.length)) 61 = 2 := by
  have e := ncV_ok (m := 60) tab11 (by decide)
  rw [← sum_rng, ← e]
  decide +kernel
theorem r_lk55 (hrt : ∀ k, DD.rt (.bl true) k) : t_lk55 BC DD ⟨X, [.no, .mst, x2, x3, x4, x5, x6, x7, x8, x9, x10], k⟩ := by
  intro X'
  refine ⟨by show 1 ≤ lim; decide, by show 1 ≤ lim; decide, T11, rfl, tab11, T11, [1], rfl, tab11, l11, ?_⟩
  rw [s11]
  refine ⟨rfl, rfl, true, congrArg D.bl (by decide +kernel), iteT ?_⟩
  refine told_sz tab20 (fun u e => ?_) (fun e => ?_) (fun R' h => ⟨by show 2 ≤ lim; decide, by show 2 ≤ lim; decide, by show 2 ≤ lim; decide, T20, rfl, tab20, h⟩)
  · rw [l20] at e; cases e
  · exact hrt _
end
theorem r_law55 (BC : Addr) (K : PySem.W.Frag) (DD : DEnds) (hrt : ∀ k, DD.rt (.bl true) k) : t_law55 BC K DD ⟨[], [.no, .mst, .no, .no, .no, .no, .no, .no, .no, .no, .no], 0⟩ := by
  refine ⟨_, rfl, by decide, by decide, fun i s' => ∃ (X : List Addr) (x2 x3 x4 x5 : Sl) (k : Nat), s' = ⟨X, [.no, .mst, x2, x3, x4, x5, .no, .no, .no, .no, .no], k⟩ ∧ k ≤ 100 * i, ⟨_, _, _, _, _, 0, rfl, by omega⟩, ?_, ?_⟩
  · rintro i d s' hd ⟨X, x2, x3, x4, x5, k, rfl, hk⟩
    obtain ⟨hi, rfl⟩ := rngD_at hd
    have hi : i < 3 := hi
    refine r_la55 (k := k) (by omega) fun T w l k1 hf a1 b1 => ?_
    obtain ⟨L, rfl, l24, sz, w1, w2⟩ := hf.sz
    refine r_lb55 sz l24 w1 w2 ?_
    exact ⟨X, _, _, _, _, k1, rfl, by omega⟩
  · rintro s' ⟨X, x2, x3, x4, x5, k, rfl, hk⟩
    have rl : (rngD 0 (3 : Int).toNat).length = 3 := rfl
    rw [rl] at hk
    refine r_lc55 ⟨by show 7 < 11; decide, ?_⟩
    refine r_ld55 (r_le55 (r_lf55 (k := k) (by omega) fun M w hM => r_lg55 (k := k + 1) hM (by omega) fun k2 a2 b2 => r_lh55 (k := k2) (by omega) fun S k3 hS a3 b3 => ?_))
    exact r_lij55 (DD := { DD with nx := (t_lk55 BC) DD }) hS fun x10 => r_lk55 hrt
end BW
namespace BW
open PySem L2 DL
theorem pd_globE {X : Cx} {c : C} {x : PySem.Str} {pos : Pos} {i : Int} (h : ∃ t, X.mg x = some (.int i t)) (hg : Gl X x := by rfl) (hd : (x == ("__debug__" : PySem.Str)) = false := by decide) : PE X (.Name x pos) (LE c (dC (.int i))) := by
  obtain ⟨t, h⟩ := h
  exact pd_globI h hg hd
abbrev s_is_whole : Stmt := top 20
theorem sc_is_whole : FnScope ["value"] ["value"] (defScope s_is_whole) := ⟨rfl, rfl, rfl, by decide +kernel, rfl, by decide +kernel, by decide +kernel⟩
theorem w_is_whole {P : Program} {w : World} {K : PySem.W.Frag} {mg : PySem.Str → Option Value} {base : Heap} (g_isinstance : mg "isinstance" = none) (g_int : mg "int" = none) (g_bool : mg "bool" = none) (qual : PySem.Str) (f : Addr) (cdv : Value) (A : Around) (outer : List Env) (s : Shared) (H : Hp) (E : XK) (M : Option Mc) (X0 : List Addr)
    (hr : Room 0 (A.deeper (PyProof.Rows.envOfC qual (defScope s_is_whole) s.heap.objs.size f cdv))) :
    PSs (cxOf CX0 P w K mg base ["value"] qual (defScope s_is_whole) f cdv A outer s H E).nox (defBody s_is_whole) (LS ⟨K, M, X0, H, []⟩ t_is_whole) :=
  (psd_one (psd_ret (pd_andV (pd_isi rfl g_isinstance g_int PyProof.Rows.boot_int (pd_var 0)) (pd_one (pd_notV (pd_isi rfl g_isinstance g_bool PyProof.Rows.boot_bool (pd_var 0)))))))
abbrev s_can_stand : Stmt := top 23
theorem sc_can_stand : FnScope ["rows", "one", "other", "item"] ["rows", "one", "other"] (defScope s_can_stand) := ⟨rfl, rfl, rfl, by decide +kernel, rfl, by decide +kernel, by decide +kernel⟩
theorem w_can_stand {P : Program} {w : World} {K : PySem.W.Frag} {mg : PySem.Str → Option Value} {base : Heap} (g_OWN_BOND : ∃ t, mg "OWN_BOND" = some (.int (1) t)) (g_WEIGHTS : KdAt P w K mg "WEIGHTS" kd_WEIGHTS) (c_is_whole : CalD P w K mg base 1 "is_whole" false sp_is_whole) (qual : PySem.Str) (f : Addr) (cdv : Value) (A : Around) (outer : List Env) (s : Shared) (H : Hp) (E : XK) (M : Option Mc) (X0 : List Addr)
    (hr : Room 1 (A.deeper (PyProof.Rows.envOfC qual (defScope s_can_stand) s.heap.objs.size f cdv))) :
    PSs (cxOf CX0 P w K mg base ["rows", "one", "other", "item"] qual (defScope s_can_stand) f cdv A outer s H E).nox (defBody s_can_stand) (LS ⟨K, M, X0, H, []⟩ t_can_stand) :=
  (psd_cons (psd_set 3 sc_can_stand.nd (pd_ix rfl (pd_ixN rfl 0 (pd_sub (pd_var 1) pd_int)) (pd_sub (pd_var 2) pd_int)))
  (psd_cons (psd_if (ptd_not (pt_tru rfl (pd_call rfl c_is_whole hr (by decide) (pad_cons (pd_var 3) pad_nil)))) (psd_one (psd_ret pd_bl)) psd_nil)
  (psd_cons (psd_if (ptd_cmp (OpR.or op_eq (op_eqD hr.units)) (fit_eq rfl) (pd_var 1) (pd_var 2)) (psd_one (psd_ret (pd_cmp (OpR.or op_eq (op_eqD hr.units)) (fit_eq rfl) (pd_var 3) (pd_globE g_OWN_BOND)))) psd_nil)
  (psd_cons (psd_if (ptd_cmp op_lt fit_lt (pd_var 1) (pd_var 2)) (psd_one (psd_ret (pd_inkd g_WEIGHTS (pd_var 3)))) psd_nil)
  (psd_one (psd_ret (pd_cmp (OpR.or op_eq (op_eqD hr.units)) (fit_eq rfl) (pd_var 3) (pd_ix rfl (pd_ixN rfl 0 (pd_sub (pd_var 2) pd_int)) (pd_sub (pd_var 1) pd_int)))))))))
abbrev s_check_shape : Stmt := top 24
theorem sc_check_shape : FnScope ["rows", "row"] ["rows"] (defScope s_check_shape) := ⟨rfl, rfl, rfl, by decide +kernel, rfl, by decide +kernel, by decide +kernel⟩
theorem w_check_shape {P : Program} {w : World} {K : PySem.W.Frag} {mg : PySem.Str → Option Value} {base : Heap} (g_isinstance : mg "isinstance" = none) (g_list : mg "list" = none) (g_tuple : mg "tuple" = none) (g_len : mg "len" = none) (g_MOST_LETTERS : ∃ t, mg "MOST_LETTERS" = some (.int (6) t)) (qual : PySem.Str) (f : Addr) (cdv : Value) (A : Around) (outer : List Env) (s : Shared) (H : Hp) (E : XK) (M : Option Mc) (X0 : List Addr)
    (hr : Room 0 (A.deeper (PyProof.Rows.envOfC qual (defScope s_check_shape) s.heap.objs.size f cdv))) :
    PSs (cxOf CX0 P w K mg base ["rows", "row"] qual (defScope s_check_shape) f cdv A outer s H E).nox (defBody s_check_shape) (LS ⟨K, M, X0, H, []⟩ t_check_shape) :=
  (psd_cons (psd_if (PW.pt (pwd_or (ptd_not (pt_tru rfl (pd_isi2 rfl g_isinstance g_list g_tuple PyProof.Rows.boot_list PyProof.Rows.boot_tuple (pd_var 0)))) (pwd_or1 (ptd_cmp (OpR.or op_eq (op_eqD hr.units)) (fit_eq rfl) (pd_lenN rfl g_len 0) pd_int)))) (psd_one psd_never) psd_nil)
  (psd_cons (psd_if (ptd_cmp op_gt fit_gt (pd_lenN rfl g_len 0) (pd_globE g_MOST_LETTERS)) (psd_one psd_never) psd_nil)
  (psd_one (psd_for PassesOwn.never rfl (pid_list rfl (pd_var 0)) (pgd_name 1 sc_check_shape.nd) (psd_one (psd_if (PW.pt (pwd_or (ptd_not (pt_tru rfl (pd_isi2 rfl g_isinstance g_list g_tuple PyProof.Rows.boot_list PyProof.Rows.boot_tuple (pd_var 1)))) (pwd_or1 (ptd_cmp (OpR.or op_ne (op_neD hr.units)) (fit_ne rfl) (pd_lenN rfl g_len 1) (pd_lenN rfl g_len 0))))) (psd_one psd_never) psd_nil))))))
abbrev s_check_table : Stmt := top 25
theorem sc_check_table : FnScope ["rows", "letters", "one", "other"] ["rows"] (defScope s_check_table) := ⟨rfl, rfl, rfl, by decide +kernel, rfl, by decide +kernel, by decide +kernel⟩
theorem w_check_table {P : Program} {w : World} {K : PySem.W.Frag} {mg : PySem.Str → Option Value} {base : Heap} (g_list : mg "list" = none) (g_range : mg "range" = none) (g_len : mg "len" = none) (c_check_shape : CalD P w K mg base 1 "check_shape" false sp_check_shape) (c_can_stand : CalD P w K mg base 2 "can_stand" false sp_can_stand) (qual : PySem.Str) (f : Addr) (cdv : Value) (A : Around) (outer : List Env) (s : Shared) (H : Hp) (E : XK) (M : Option Mc) (X0 : List Addr)
    (hr : Room 2 (A.deeper (PyProof.Rows.envOfC qual (defScope s_check_table) s.heap.objs.size f cdv))) :
    PSs (cxOf CX0 P w K mg base ["rows", "letters", "one", "other"] qual (defScope s_check_table) f cdv A outer s H E).nox (defBody s_check_table) (LS ⟨K, M, X0, H, []⟩ t_check_table) :=
  (psd_cons (psd_expr (pd_call rfl c_check_shape hr (by decide) (pad_cons (pd_var 0) pad_nil)))
  (psd_cons (psd_set 1 sc_check_table.nd (pd_fr (pdf_lr2 rfl g_list g_range pd_int (pd_add rfl (pd_lenN rfl g_len 0) pd_int))))
  (psd_one (psd_for PassesOwn.never rfl (pid_list rfl (pd_var 1)) (pgd_name 2 sc_check_table.nd) (psd_one (psd_for PassesOwn.never rfl (pid_list rfl (pd_var 1)) (pgd_name 3 sc_check_table.nd) (psd_one (psd_if (ptd_not (pt_tru rfl (pd_call rfl c_can_stand hr (by decide) (pad_cons (pd_var 0) (pad_cons (pd_var 2) (pad_cons (pd_var 3) pad_nil)))))) (psd_one psd_never) psd_nil))))))))
abbrev s_weight_of : Stmt := top 26
theorem sc_weight_of : FnScope ["table", "one", "other", "upward", "downward"] ["table", "one", "other"] (defScope s_weight_of) := ⟨rfl, rfl, rfl, by decide +kernel, rfl, by decide +kernel, by decide +kernel⟩
theorem w_weight_of {P : Program} {w : World} {K : PySem.W.Frag} {mg : PySem.Str → Option Value} {base : Heap} (g_OWN_WEIGHT : ∃ t, mg "OWN_WEIGHT" = some (.int (-2) t)) (g_WEIGHTS : KdAt P w K mg "WEIGHTS" kd_WEIGHTS) (qual : PySem.Str) (f : Addr) (cdv : Value) (A : Around) (outer : List Env) (s : Shared) (H : Hp) (E : XK) (M : Option Mc) (X0 : List Addr)
    (hr : Room 0 (A.deeper (PyProof.Rows.envOfC qual (defScope s_weight_of) s.heap.objs.size f cdv))) :
    PSs (cxOf CX0 P w K mg base ["table", "one", "other", "upward", "downward"] qual (defScope s_weight_of) f cdv A outer s H E).nox (defBody s_weight_of) (LS ⟨K, M, X0, H, []⟩ t_weight_of) :=
  (psd_cons (psd_if (ptd_cmp (OpR.or op_eq (op_eqD hr.units)) (fit_eq rfl) (pd_var 1) (pd_var 2)) (psd_one (psd_ret (pd_globE g_OWN_WEIGHT))) psd_nil)
  (psd_cons (psd_asg (pd_kd rfl g_WEIGHTS (pd_ix rfl (pd_ixN rfl 0 (pd_sub (pd_var 1) pd_int)) (pd_sub (pd_var 2) pd_int))) (pgd_tup rfl rfl (pgds_cons (pgd_name 3 sc_weight_of.nd) (pgds_cons (pgd_name 4 sc_weight_of.nd) pgds_nil))))
  (psd_one (psd_ret (pd_if (ptd_cmp op_lt fit_lt (pd_var 1) (pd_var 2)) (pd_var 3) (pd_var 4))))))
abbrev s_weights_from : Stmt := top 27
theorem sc_weights_from : FnScope ["table", "one", "other"] ["table", "one"] (defScope s_weights_from) := ⟨rfl, rfl, rfl, by decide +kernel, rfl, by decide +kernel, by decide +kernel⟩
theorem w_weights_from {P : Program} {w : World} {K : PySem.W.Frag} {mg : PySem.Str → Option Value} {base : Heap} (g_tuple : mg "tuple" = none) (g_range : mg "range" = none) (g_len : mg "len" = none) (c_weight_of : CalD P w K mg base 1 "weight_of" false sp_weight_of) (qual : PySem.Str) (f : Addr) (cdv : Value) (A : Around) (outer : List Env) (s : Shared) (H : Hp) (E : XK) (M : Option Mc) (X0 : List Addr)
    (hr : Room 1 (A.deeper (PyProof.Rows.envOfC qual (defScope s_weights_from) s.heap.objs.size f cdv))) :
    PSs (cxOf CX0 P w K mg base ["table", "one", "other"] qual (defScope s_weights_from) f cdv A outer s H E).nox (defBody s_weights_from) (LS ⟨K, M, X0, H, []⟩ t_weights_from) :=
  (psd_one (psd_ret (pd_tupOf rfl g_tuple (pd_fr (pdf_lc (own := [("other", 2)]) rfl sc_weights_from.nd (pid_r2 g_range pd_int (pd_add rfl (pd_lenN rfl g_len 0) pd_int)) (blkOk_by (N := ["table", "one", "other"]) (sc := defScope s_weights_from) (by decide +kernel)) (fun sB HB CB clB fpB => (pgd_name 2 sc_weights_from.nd)) (fun sB HB CB clB fpB => pts_none) (fun sB HB CB clB fpB => (pd_call rfl c_weight_of hr (by decide) (pad_cons (pd_var 0) (pad_cons (pd_var 1) (pad_cons (pd_var 2) pad_nil))))))))))
abbrev s_first_row : Stmt := top 32
theorem sc_first_row : FnScope ["bonds"] ["bonds"] (defScope s_first_row) := ⟨rfl, rfl, rfl, by decide +kernel, rfl, by decide +kernel, by decide +kernel⟩
theorem w_first_row {P : Program} {w : World} {K : PySem.W.Frag} {mg : PySem.Str → Option Value} {base : Heap} {BC : Addr} (g_len : mg "len" = none) (c_len_Bonds : LenD P w K mg base 1 BC (sp_len_Bonds BC)) (qual : PySem.Str) (f : Addr) (cdv : Value) (A : Around) (outer : List Env) (s : Shared) (H : Hp) (E : XK) (M : Option Mc) (X0 : List Addr)
    (hr : Room 2 (A.deeper (PyProof.Rows.envOfC qual (defScope s_first_row) s.heap.objs.size f cdv))) :
    PSs (cxOf CX0 P w K mg base ["bonds"] qual (defScope s_first_row) f cdv A outer s H E).nox (defBody s_first_row) (LS ⟨K, M, X0, H, []⟩ (t_first_row BC)) :=
  (psd_one (psd_ret (pd_mul rfl (pd_tup (pad_cons pd_int pad_nil)) (pd_lenO rfl g_len c_len_Bonds hr (by decide) (pd_var 0)))))
abbrev s_pressed : Stmt := top 33
theorem sc_pressed : FnScope ["bonds", "row", "letter", "number", "weights", "old", "weight"] ["bonds", "row", "letter"] (defScope s_pressed) := ⟨rfl, rfl, rfl, by decide +kernel, rfl, by decide +kernel, by decide +kernel⟩
theorem w_pressed {P : Program} {w : World} {K : PySem.W.Frag} {mg : PySem.Str → Option Value} {base : Heap} {BC : Addr} (g_tuple : mg "tuple" = none) (g_zip : mg "zip" = none) (g_Bonds : Cls K BC) (g_Bonds_weights : NoAttr K BC "weights") (qual : PySem.Str) (f : Addr) (cdv : Value) (A : Around) (outer : List Env) (s : Shared) (H : Hp) (E : XK) (M : Option Mc) (X0 : List Addr)
    (hr : Room 0 (A.deeper (PyProof.Rows.envOfC qual (defScope s_pressed) s.heap.objs.size f cdv))) :
    PSs (cxOf CX0 P w K mg base ["bonds", "row", "letter", "number", "weights", "old", "weight"] qual (defScope s_pressed) f cdv A outer s H E).nox (defBody s_pressed) (LS ⟨K, M, X0, H, []⟩ (t_pressed BC)) :=
  (psd_cons (psd_set 3 sc_pressed.nd (pd_ixN rfl 1 (pd_sub (pd_var 2) pd_int)))
  (psd_cons (psd_set 4 sc_pressed.nd (pd_ix rfl (pd_fld rfl g_Bonds g_Bonds_weights (pd_var 0)) (pd_sub (pd_var 2) pd_int)))
  (psd_one (psd_ret (pd_tupOf rfl g_tuple (pd_fr (pdf_lc (own := [("old", 5), ("weight", 6)]) rfl sc_pressed.nd (pid_zip rfl g_zip (pd_var 1) (pd_var 4)) (blkOk_by (N := ["bonds", "row", "letter", "number", "weights", "old", "weight"]) (sc := defScope s_pressed) (by decide +kernel)) (fun sB HB CB clB fpB => (pgd_tup rfl rfl (pgds_cons (pgd_name 5 sc_pressed.nd) (pgds_cons (pgd_name 6 sc_pressed.nd) pgds_nil)))) (fun sB HB CB clB fpB => pts_none) (fun sB HB CB clB fpB => (pd_add rfl (pd_var 5) (pd_mul rfl (pd_var 6) (pd_var 3)))))))))))
abbrev s_all_letters : Stmt := top 37
theorem sc_all_letters : FnScope ["bonds"] ["bonds"] (defScope s_all_letters) := ⟨rfl, rfl, rfl, by decide +kernel, rfl, by decide +kernel, by decide +kernel⟩
theorem w_all_letters {P : Program} {w : World} {K : PySem.W.Frag} {mg : PySem.Str → Option Value} {base : Heap} {BC : Addr} (g_tuple : mg "tuple" = none) (g_range : mg "range" = none) (g_len : mg "len" = none) (c_len_Bonds : LenD P w K mg base 1 BC (sp_len_Bonds BC)) (qual : PySem.Str) (f : Addr) (cdv : Value) (A : Around) (outer : List Env) (s : Shared) (H : Hp) (E : XK) (M : Option Mc) (X0 : List Addr)
    (hr : Room 2 (A.deeper (PyProof.Rows.envOfC qual (defScope s_all_letters) s.heap.objs.size f cdv))) :
    PSs (cxOf CX0 P w K mg base ["bonds"] qual (defScope s_all_letters) f cdv A outer s H E).nox (defBody s_all_letters) (LS ⟨K, M, X0, H, []⟩ (t_all_letters BC)) :=
  (psd_one (psd_ret (pd_tupRg2 rfl g_range g_tuple pd_int (pd_add rfl (pd_lenO rfl g_len c_len_Bonds hr (by decide) (pd_var 0)) pd_int))))
abbrev s_longest_within : Stmt := top 38
theorem sc_longest_within : FnScope ["bonds", "choice", "row", "letters", "high", "letter"] ["bonds", "choice"] (defScope s_longest_within) := ⟨rfl, rfl, rfl, by decide +kernel, rfl, by decide +kernel, by decide +kernel⟩
theorem w_longest_within {P : Program} {w : World} {K : PySem.W.Frag} {mg : PySem.Str → Option Value} {base : Heap} {BC : Addr} (g_len : mg "len" = none) (g_MOST_WORD : ∃ t, mg "MOST_WORD" = some (.int (60) t)) (c_first_row : CalD P w K mg base 3 "first_row" false (sp_first_row BC)) (c_pressed : CalD P w K mg base 1 "pressed" false (sp_pressed BC)) (qual : PySem.Str) (f : Addr) (cdv : Value) (A : Around) (outer : List Env) (s : Shared) (H : Hp) (E : XK) (M : Option Mc) (X0 : List Addr)
    (hr : Room 3 (A.deeper (PyProof.Rows.envOfC qual (defScope s_longest_within) s.heap.objs.size f cdv))) :
    PSs (cxOf CX0 P w K mg base ["bonds", "choice", "row", "letters", "high", "letter"] qual (defScope s_longest_within) f cdv A outer s H E).nox (defBody s_longest_within) (LS ⟨K, M, X0, H, []⟩ (t_longest_within BC)) :=
  (psd_cons (psd_set 2 sc_longest_within.nd (pd_call rfl c_first_row hr (by decide) (pad_cons (pd_var 0) pad_nil)))
  (psd_cons (psd_set 3 sc_longest_within.nd (pd_tup pad_nil))
  (psd_cons (psd_while PassesOwn.never (ptd_cmp op_le fit_le (pd_lenN rfl g_len 3) (pd_globE g_MOST_WORD)) (psd_cons (psd_setLc 4 (own := [("letter", 5)]) rfl sc_longest_within.nd (pid_tup rfl (pd_var 1)) (blkOk_by (N := ["bonds", "choice", "row", "letters", "high", "letter"]) (sc := defScope s_longest_within) (by decide +kernel)) (fun sB HB CB clB fpB => (pgd_name 5 sc_longest_within.nd)) (fun sB HB CB clB fpB => (ptsd_one (ptd_cmp op_gt fit_gt (pd_ixN rfl 2 (pd_sub (pd_var 5) pd_int)) pd_int))) (fun sB HB CB clB fpB => (pd_var 5)))
  (psd_cons (psd_if (ptd_not (pt_tru rfl (pd_var 4))) (psd_one (psd_ret (pd_var 3))) psd_nil)
  (psd_cons (psd_set 2 sc_longest_within.nd (pd_call rfl c_pressed hr (by decide) (pad_cons (pd_var 0) (pad_cons (pd_var 2) (pad_cons (pd_ixN rfl 4 pd_int) pad_nil)))))
  (psd_one (psd_augT rfl 3 sc_longest_within.nd (pd_tup (pad_cons (pd_ixN rfl 4 pd_int) pad_nil))))))))
  (psd_one (psd_ret pd_non)))))
abbrev s_is_finite : Stmt := top 39
theorem sc_is_finite : FnScope ["bonds"] ["bonds"] (defScope s_is_finite) := ⟨rfl, rfl, rfl, by decide +kernel, rfl, by decide +kernel, by decide +kernel⟩
theorem w_is_finite {P : Program} {w : World} {K : PySem.W.Frag} {mg : PySem.Str → Option Value} {base : Heap} {BC : Addr} (c_longest_within : CalD P w K mg base 4 "longest_within" false (sp_longest_within BC)) (c_all_letters : CalD P w K mg base 3 "all_letters" false (sp_all_letters BC)) (qual : PySem.Str) (f : Addr) (cdv : Value) (A : Around) (outer : List Env) (s : Shared) (H : Hp) (E : XK) (M : Option Mc) (X0 : List Addr)
    (hr : Room 4 (A.deeper (PyProof.Rows.envOfC qual (defScope s_is_finite) s.heap.objs.size f cdv))) :
    PSs (cxOf CX0 P w K mg base ["bonds"] qual (defScope s_is_finite) f cdv A outer s H E).nox (defBody s_is_finite) (LS ⟨K, M, X0, H, []⟩ (t_is_finite BC)) :=
  (psd_one (psd_ret (pd_cmp (OpR.or op_notN op_notBl) fit_isnot (pd_call rfl c_longest_within hr (by decide) (pad_cons (pd_var 0) (pad_cons (pd_call rfl c_all_letters hr (by decide) (pad_cons (pd_var 0) pad_nil)) pad_nil))) pd_non)))
abbrev s_check_number : Stmt := top 41
theorem sc_check_number : FnScope ["value", "most"] ["value", "most"] (defScope s_check_number) := ⟨rfl, rfl, rfl, by decide +kernel, rfl, by decide +kernel, by decide +kernel⟩
theorem w_check_number {P : Program} {w : World} {K : PySem.W.Frag} {mg : PySem.Str → Option Value} {base : Heap} (c_is_whole : CalD P w K mg base 1 "is_whole" false sp_is_whole) (qual : PySem.Str) (f : Addr) (cdv : Value) (A : Around) (outer : List Env) (s : Shared) (H : Hp) (E : XK) (M : Option Mc) (X0 : List Addr)
    (hr : Room 1 (A.deeper (PyProof.Rows.envOfC qual (defScope s_check_number) s.heap.objs.size f cdv))) :
    PSs (cxOf CX0 P w K mg base ["value", "most"] qual (defScope s_check_number) f cdv A outer s H E).nox (defBody s_check_number) (LS ⟨K, M, X0, H, []⟩ t_check_number) :=
  (psd_one (psd_if (PW.pt (pwd_or (ptd_not (pt_tru rfl (pd_call rfl c_is_whole hr (by decide) (pad_cons (pd_var 0) pad_nil)))) (pwd_or1 (ptd_not (ptd_chain op_le fit_le op_le fit_le pd_int (pd_var 0) (pd_var 1)))))) (psd_one psd_never) psd_nil))
abbrev s_sign_of : Stmt := top 42
theorem sc_sign_of : FnScope ["many"] ["many"] (defScope s_sign_of) := ⟨rfl, rfl, rfl, by decide +kernel, rfl, by decide +kernel, by decide +kernel⟩
theorem w_sign_of {P : Program} {w : World} {K : PySem.W.Frag} {mg : PySem.Str → Option Value} {base : Heap}  (qual : PySem.Str) (f : Addr) (cdv : Value) (A : Around) (outer : List Env) (s : Shared) (H : Hp) (E : XK) (M : Option Mc) (X0 : List Addr)
    (hr : Room 0 (A.deeper (PyProof.Rows.envOfC qual (defScope s_sign_of) s.heap.objs.size f cdv))) :
    PSs (cxOf CX0 P w K mg base ["many"] qual (defScope s_sign_of) f cdv A outer s H E).nox (defBody s_sign_of) (LS ⟨K, M, X0, H, []⟩ t_sign_of) :=
  (psd_one (psd_ret (pd_if (pt_tru rfl (pd_andB (pd_var 0) pd_int)) pd_negc pd_int)))
abbrev s_parts_of : Stmt := top 43
theorem sc_parts_of : FnScope ["choice", "found", "part", "letter"] ["choice", "found"] (defScope s_parts_of) := ⟨rfl, rfl, rfl, by decide +kernel, rfl, by decide +kernel, by decide +kernel⟩
theorem w_parts_of {P : Program} {w : World} {K : PySem.W.Frag} {mg : PySem.Str → Option Value} {base : Heap} (g_all : mg "all" = none) (qual : PySem.Str) (f : Addr) (cdv : Value) (A : Around) (outer : List Env) (s : Shared) (H : Hp) (E : XK) (M : Option Mc) (X0 : List Addr)
    (hr : Room 0 (A.deeper (PyProof.Rows.envOfC qual (defScope s_parts_of) s.heap.objs.size f cdv))) :
    PSs (cxOf CX0 P w K mg base ["choice", "found", "part", "letter"] qual (defScope s_parts_of) f cdv A outer s H E).nox (defBody s_parts_of) (LS ⟨K, M, X0, H, []⟩ t_parts_of) :=
  (psd_one (psd_ret (pd_fr (pdf_lc (own := [("part", 2)]) rfl sc_parts_of.nd (pid_ks rfl (pd_var 1)) (blkOk_by (N := ["choice", "found", "part", "letter"]) (sc := defScope s_parts_of) (by decide +kernel)) (fun sB HB CB clB fpB => (pgd_name 2 sc_parts_of.nd)) (fun sB HB CB clB fpB => (ptsd_one (pt_tru rfl (pd_all rfl g_all rfl (pd_fr (pdf_lc (own := [("letter", 3)]) rfl sc_parts_of.nd (pid_tup rfl (pd_var 2)) (blkOk_by (N := ["choice", "found", "part", "letter"]) (sc := { kind := .function, names := [(".0", .local), ("part", .local), ("all", .globalImplicit), ("choice", .cell)], isGenerator := false, isCoroutine := false }) (by decide +kernel)) (fun sB HB CB clB fpB => (pgd_name 3 sc_parts_of.nd)) (fun sB HB CB clB fpB => pts_none) (fun sB HB CB clB fpB => (pd_cmp op_in_seq (fit_in rfl) (pd_var 3) (pd_var 0))))))))) (fun sB HB CB clB fpB => (pd_var 2))))))
abbrev s_one_divided : Stmt := top 44
theorem sc_one_divided : FnScope ["choice", "longest", "found", "many", "signs", "numbers", "power", "number", "part", "sign"] ["choice", "longest", "found", "many"] (defScope s_one_divided) := ⟨rfl, rfl, rfl, by decide +kernel, rfl, by decide +kernel, by decide +kernel⟩
theorem w_one_divided {P : Program} {w : World} {K : PySem.W.Frag} {mg : PySem.Str → Option Value} {base : Heap} (g_len : mg "len" = none) (g_range : mg "range" = none) (g_sum : mg "sum" = none) (c_parts_of : CalD P w K mg base 1 "parts_of" false sp_parts_of) (c_sign_of : CalD P w K mg base 1 "sign_of" false sp_sign_of) (qual : PySem.Str) (f : Addr) (cdv : Value) (A : Around) (outer : List Env) (s : Shared) (H : Hp) (E : XK) (M : Option Mc) (X0 : List Addr)
    (hr : Room 1 (A.deeper (PyProof.Rows.envOfC qual (defScope s_one_divided) s.heap.objs.size f cdv))) :
    PSs (cxOf CX0 P w K mg base ["choice", "longest", "found", "many", "signs", "numbers", "power", "number", "part", "sign"] qual (defScope s_one_divided) f cdv A outer s H E).nox (defBody s_one_divided) (LS ⟨K, M, X0, H, [5]⟩ t_one_divided) :=
  (psd_cons (psd_if (ptd_cmp (OpR.or op_eq (op_eqD hr.units)) (fit_eq rfl) (pd_lenN rfl g_len 0) pd_int) (psd_one (psd_ret (pd_add rfl (pd_fr (pdf_lst (pad_cons pd_int pad_nil))) (pd_mul rfl (pd_fr (pdf_lst (pad_cons pd_int pad_nil))) (pd_var 3))))) psd_nil)
  (psd_cons (psd_setLc 4 (own := [("part", 8)]) rfl sc_one_divided.nd (pid_list rfl (pd_call rfl c_parts_of hr (by decide) (pad_cons (pd_var 0) (pad_cons (pd_var 2) pad_nil)))) (blkOk_by (N := ["choice", "longest", "found", "many", "signs", "numbers", "power", "number", "part", "sign"]) (sc := defScope s_one_divided) (by decide +kernel)) (fun sB HB CB clB fpB => (pgd_name 8 sc_one_divided.nd)) (fun sB HB CB clB fpB => pts_none) (fun sB HB CB clB fpB => (pd_tup (pad_cons (pd_var 8) (pad_cons (pd_neg (pd_call rfl c_sign_of hr (by decide) (pad_cons (pd_sub (pd_lenN rfl g_len 0) (pd_lenN rfl g_len 8)) pad_nil))) pad_nil)))))
  (psd_cons (psd_setO 5 rfl sc_one_divided.nd (pdf_lst pad_nil))
  (psd_cons (psd_for PassesOwn.never rfl (pid_r1 g_range (pd_add rfl (pd_var 3) pd_int)) (pgd_name 6 sc_one_divided.nd) (psd_cons (psd_set 7 sc_one_divided.nd (pd_sum rfl g_sum rfl (pd_fr (pdf_lc (own := [("part", 8), ("sign", 9)]) rfl sc_one_divided.nd (pid_list rfl (pd_var 4)) (blkOk_by (N := ["choice", "longest", "found", "many", "signs", "numbers", "power", "number", "part", "sign"]) (sc := defScope s_one_divided) (by decide +kernel)) (fun sB HB CB clB fpB => (pgd_tup rfl rfl (pgds_cons (pgd_name 8 sc_one_divided.nd) (pgds_cons (pgd_name 9 sc_one_divided.nd) pgds_nil)))) (fun sB HB CB clB fpB => pts_none) (fun sB HB CB clB fpB => (pd_mul rfl (pd_var 9) (pd_ix rfl (pd_ixK hr rfl (pd_var 2) (pd_var 8)) (pd_var 6))))))))
  (psd_cons (psd_if (PW.pt (pwd_and (ptd_cmp (OpR.or op_notN op_notBl) fit_isnot (pd_var 1) pd_non) (pwd_and1 (ptd_cmp op_ge fit_ge (pd_var 6) (pd_lenN rfl g_len 1))))) (psd_one (psd_augA 7 sc_one_divided.nd (pd_mul rfl (pd_call rfl c_sign_of hr (by decide) (pad_cons (pd_lenN rfl g_len 0) pad_nil)) (pd_ixN rfl 5 (pd_sub (pd_var 6) (pd_lenN rfl g_len 1)))))) psd_nil)
  (psd_one (psd_app 5 (pd_var 7))))))
  (psd_one (psd_ret (pd_var 5)))))))
abbrev s_inverse : Stmt := top 45
theorem sc_inverse : FnScope ["numbers", "found", "power", "lower"] ["numbers"] (defScope s_inverse) := ⟨rfl, rfl, rfl, by decide +kernel, rfl, by decide +kernel, by decide +kernel⟩
theorem w_inverse {P : Program} {w : World} {K : PySem.W.Frag} {mg : PySem.Str → Option Value} {base : Heap} (g_range : mg "range" = none) (g_len : mg "len" = none) (g_sum : mg "sum" = none) (qual : PySem.Str) (f : Addr) (cdv : Value) (A : Around) (outer : List Env) (s : Shared) (H : Hp) (E : XK) (M : Option Mc) (X0 : List Addr)
    (hr : Room 0 (A.deeper (PyProof.Rows.envOfC qual (defScope s_inverse) s.heap.objs.size f cdv))) :
    PSs (cxOf CX0 P w K mg base ["numbers", "found", "power", "lower"] qual (defScope s_inverse) f cdv A outer s H E).nox (defBody s_inverse) (LS ⟨K, M, X0, H, [1]⟩ t_inverse) :=
  (psd_cons (psd_setO 1 rfl sc_inverse.nd (pdf_lst (pad_cons pd_int pad_nil)))
  (psd_cons (psd_for PassesOwn.never rfl (pid_r2 g_range pd_int (pd_lenN rfl g_len 0)) (pgd_name 2 sc_inverse.nd) (psd_one (psd_app 1 (pd_neg (pd_sum rfl g_sum rfl (pd_fr (pdf_lc (own := [("lower", 3)]) rfl sc_inverse.nd (pid_r1 g_range (pd_var 2)) (blkOk_by (N := ["numbers", "found", "power", "lower"]) (sc := defScope s_inverse) (by decide +kernel)) (fun sB HB CB clB fpB => (pgd_name 3 sc_inverse.nd)) (fun sB HB CB clB fpB => pts_none) (fun sB HB CB clB fpB => (pd_mul rfl (pd_ixN rfl 0 (pd_sub (pd_var 2) (pd_var 3))) (pd_ixN rfl 1 (pd_var 3)))))))))))
  (psd_one (psd_ret (pd_var 1)))))
abbrev s__law_mixed : Stmt := top 49
theorem sc__law_mixed : FnScope ["cell", "n", "blend"] ["cell", "n"] (defScope s__law_mixed) := ⟨rfl, rfl, rfl, by decide +kernel, rfl, by decide +kernel, by decide +kernel⟩
theorem w__law_mixed {P : Program} {w : World} {K : PySem.W.Frag} {mg : PySem.Str → Option Value} {base : Heap} (g_int : mg "int" = none) (qual : PySem.Str) (f : Addr) (cdv : Value) (A : Around) (outer : List Env) (s : Shared) (H : Hp) (E : XK) (M : Option Mc) (X0 : List Addr)
    (hr : Room 0 (A.deeper (PyProof.Rows.envOfC qual (defScope s__law_mixed) s.heap.objs.size f cdv))) :
    PSs (cxOf CX0 P w K mg base ["cell", "n", "blend"] qual (defScope s__law_mixed) f cdv A outer s H E).nox (defBody s__law_mixed) (LS ⟨K, M, X0, H, []⟩ t__law_mixed) :=
  (psd_cons (psd_set 2 sc__law_mixed.nd (pd_add rfl (pd_add rfl (pd_mod (pd_int1 g_int (pd_mul rfl (pd_mul rfl (pd_var 0) (pd_add rfl pd_int (pd_mul rfl pd_int (pd_var 1)))) pd_int)) pd_int) (pd_mul rfl (pd_mul rfl pd_int (pd_var 1)) (pd_var 1))) (pd_mul rfl pd_int (pd_var 1))))
  (psd_one (psd_ret (pd_div (pd_mod (pd_int1 g_int (pd_mul rfl (pd_var 2) pd_int)) pd_int) pd_int))))
abbrev s__law_folded : Stmt := top 50
abbrev s__law_draw : Stmt := top 51
abbrev s__law_begun : Stmt := top 52
abbrev s__law_like : Stmt := top 53
theorem sc__law_like : FnScope ["told", "due"] ["told", "due"] (defScope s__law_like) := ⟨rfl, rfl, rfl, by decide +kernel, rfl, by decide +kernel, by decide +kernel⟩
theorem w__law_like {P : Program} {w : World} {K : PySem.W.Frag} {mg : PySem.Str → Option Value} {base : Heap} (g_repr : mg "repr" = none) (g_hsy : SysK K) (qual : PySem.Str) (f : Addr) (cdv : Value) (A : Around) (outer : List Env) (s : Shared) (H : Hp) (E : XK) (M : Option Mc) (X0 : List Addr)
    (gu : (A.deeper (PyProof.Rows.envOfC qual (defScope s__law_like) s.heap.objs.size f cdv)).guards = some []) (hr : Room 0 (A.deeper (PyProof.Rows.envOfC qual (defScope s__law_like) s.heap.objs.size f cdv))) :
    PSs (cxOf CX0 P w K mg base ["told", "due"] qual (defScope s__law_like) f cdv A outer s H E).nox (defBody s__law_like) (LS ⟨K, M, X0, H, []⟩ t__law_likeE) :=
  (psd_one (psd_ret (pd_cmp (OpR.or op_eq (op_eqD hr.units)) (fit_eq rfl) (pd_reprA rfl g_hsy gu hr g_repr (pd_var 0)) (pd_reprA rfl g_hsy gu hr g_repr (pd_var 1)))))
abbrev s__law_table : Stmt := top 54
theorem sc__law_table : FnScope ["m", "many", "some", "rows", "one", "other", "bond_so", "k"] ["m", "many", "some"] (defScope s__law_table) := ⟨rfl, rfl, rfl, by decide +kernel, rfl, by decide +kernel, by decide +kernel⟩
abbrev s__law_finite : Stmt := top 55
theorem sc__law_finite : FnScope ["m", "most", "found", "rows", "words", "letters", "first", "rest", "other", "high", "more", "one", "row"] ["m", "most"] (defScope s__law_finite) := ⟨rfl, rfl, rfl, by decide +kernel, rfl, by decide +kernel, by decide +kernel⟩
theorem w__law_finite {P : Program} {w : World} {K : PySem.W.Frag} {mg : PySem.Str → Option Value} {base : Heap} (g_len : mg "len" = none) (g_list : mg "list" = none) (c__law_draw : CalD P w K mg base 2 "_law_draw" true sp__law_draw) (c__law_shuffled : CalD P w K mg base 3 "_law_shuffled" true sp__law_shuffled) (qual : PySem.Str) (f : Addr) (cdv : Value) (A : Around) (outer : List Env) (s : Shared) (H : Hp) (E : XK) (M : Option Mc) (X0 : List Addr)
    (hr : Room 3 (A.deeper (PyProof.Rows.envOfC qual (defScope s__law_finite) s.heap.objs.size f cdv))) :
    PSs (cxOf CX0 P w K mg base ["m", "most", "found", "rows", "words", "letters", "first", "rest", "other", "high", "more", "one", "row"] qual (defScope s__law_finite) f cdv A outer s H E).nox (defBody s__law_finite) (LS ⟨K, M, X0, H, [2]⟩ t__law_finite) :=
  (psd_cons (psd_setO 2 rfl sc__law_finite.nd (pdf_lst (pad_cons (pd_tup (pad_cons (pd_fr (pdf_lst pad_nil)) (pad_cons pd_int (pad_cons pd_int pad_nil)))) pad_nil)))
  (psd_cons (psd_for PassesOwn.never rfl (pid_list rfl (pd_fr (pdf_lst (pad_cons (pd_tup (pad_cons (pd_fr (pdf_lst (pad_cons (pd_fr (pdf_lst (pad_cons pd_int pad_nil))) pad_nil))) (pad_cons pd_int (pad_cons pd_int pad_nil)))) (pad_cons (pd_tup (pad_cons (pd_fr (pdf_lst (pad_cons (pd_fr (pdf_lst (pad_cons pd_int (pad_cons pd_int pad_nil)))) (pad_cons (pd_fr (pdf_lst (pad_cons pd_int (pad_cons pd_int pad_nil)))) pad_nil)))) (pad_cons pd_int (pad_cons pd_int pad_nil)))) (pad_cons (pd_tup (pad_cons (pd_fr (pdf_lst (pad_cons (pd_fr (pdf_lst (pad_cons pd_int (pad_cons pd_int pad_nil)))) (pad_cons (pd_fr (pdf_lst (pad_cons pd_int (pad_cons pd_int pad_nil)))) pad_nil)))) (pad_cons pd_int (pad_cons pd_int pad_nil)))) pad_nil)))))) (pgd_tup rfl rfl (pgds_cons (pgd_name 3 sc__law_finite.nd) (pgds_cons (pgd_name 4 sc__law_finite.nd) (pgds_cons (pgd_name 5 sc__law_finite.nd) pgds_nil)))) (psd_one (psd_app 2 (pd_tup (pad_cons (pd_var 3) (pad_cons (pd_var 4) (pad_cons (pd_var 5) pad_nil)))))))
  (psd_cons (psd_app 2 (pd_tup (pad_cons (pd_fr (pdf_lst (pad_cons (pd_fr (pdf_lst (pad_cons pd_int (pad_cons pd_int pad_nil)))) (pad_cons (pd_fr (pdf_lst (pad_cons pd_int (pad_cons pd_int pad_nil)))) pad_nil)))) (pad_cons pd_int (pad_cons pd_int pad_nil)))))
  (psd_cons (psd_app 2 (pd_tup (pad_cons (pd_fr (pdf_lst (pad_cons (pd_fr (pdf_lst (pad_cons pd_int (pad_cons pd_int (pad_cons pd_int pad_nil))))) (pad_cons (pd_fr (pdf_lst (pad_cons pd_int (pad_cons pd_int (pad_cons pd_int pad_nil))))) (pad_cons (pd_fr (pdf_lst (pad_cons pd_int (pad_cons pd_int (pad_cons pd_int pad_nil))))) pad_nil))))) (pad_cons pd_int (pad_cons pd_int pad_nil)))))
  (psd_cons (psd_app 2 (pd_tup (pad_cons (pd_fr (pdf_lst (pad_cons (pd_fr (pdf_lst (pad_cons pd_int (pad_cons pd_int (pad_cons pd_int pad_nil))))) (pad_cons (pd_fr (pdf_lst (pad_cons pd_int (pad_cons pd_int (pad_cons pd_int pad_nil))))) (pad_cons (pd_fr (pdf_lst (pad_cons pd_int (pad_cons pd_int (pad_cons pd_int pad_nil))))) pad_nil))))) (pad_cons pd_int (pad_cons pd_int pad_nil)))))
  (psd_cons (psd_app 2 (pd_tup (pad_cons (pd_fr (pdf_lst (pad_cons (pd_fr (pdf_lst (pad_cons pd_int (pad_cons pd_int (pad_cons pd_int (pad_cons pd_int pad_nil)))))) (pad_cons (pd_fr (pdf_lst (pad_cons pd_int (pad_cons pd_int (pad_cons pd_int (pad_cons pd_int pad_nil)))))) (pad_cons (pd_fr (pdf_lst (pad_cons pd_int (pad_cons pd_int (pad_cons pd_int (pad_cons pd_int pad_nil)))))) (pad_cons (pd_fr (pdf_lst (pad_cons pd_int (pad_cons pd_int (pad_cons pd_int (pad_cons pd_int pad_nil)))))) pad_nil)))))) (pad_cons pd_int (pad_cons pd_int pad_nil)))))
  (psd_cons (psd_app 2 (pd_tup (pad_cons (pd_fr (pdf_lst (pad_cons (pd_fr (pdf_lst (pad_cons pd_int (pad_cons pd_int (pad_cons pd_int (pad_cons pd_int pad_nil)))))) (pad_cons (pd_fr (pdf_lst (pad_cons pd_int (pad_cons pd_int (pad_cons pd_int (pad_cons pd_int pad_nil)))))) (pad_cons (pd_fr (pdf_lst (pad_cons pd_int (pad_cons pd_int (pad_cons pd_int (pad_cons pd_int pad_nil)))))) (pad_cons (pd_fr (pdf_lst (pad_cons pd_int (pad_cons pd_int (pad_cons pd_int (pad_cons pd_int pad_nil)))))) pad_nil)))))) (pad_cons pd_int (pad_cons pd_int pad_nil)))))
  (psd_cons (psd_frz (psd_setLcO 2 (own := [("one", 11)]) rfl sc__law_finite.nd (pid_list rfl (pd_var 2)) (blkOk_by (N := ["m", "most", "found", "rows", "words", "letters", "first", "rest", "other", "high", "more", "one", "row"]) (sc := defScope s__law_finite) (by decide +kernel)) (fun sB HB CB clB fpB => (pgd_name 11 sc__law_finite.nd)) (fun sB HB CB clB fpB => (ptsd_one (ptd_cmp op_le fit_le (pd_len rfl g_len (pd_ixN rfl 11 pd_int)) (pd_var 1)))) (fun sB HB CB clB fpB => (pd_var 11))))
  (psd_cons (psd_set 6 sc__law_finite.nd (pd_ixN rfl 2 (pd_add rfl pd_int (pd_callM rfl c__law_draw hr (by decide) 0 (pad_cons (pd_sub (pd_lenN rfl g_len 2) pd_int) pad_nil)))))
  (psd_cons (psd_frz (psd_setLc 7 (own := [("one", 11)]) rfl sc__law_finite.nd (pid_list rfl (pd_var 2)) (blkOk_by (N := ["m", "most", "found", "rows", "words", "letters", "first", "rest", "other", "high", "more", "one", "row"]) (sc := defScope s__law_finite) (by decide +kernel)) (fun sB HB CB clB fpB => (pgd_name 11 sc__law_finite.nd)) (fun sB HB CB clB fpB => (ptsd_one (ptd_cmp op_le fit_le (pd_add rfl (pd_len rfl g_len (pd_ixN rfl 11 pd_int)) (pd_len rfl g_len (pd_ixN rfl 6 pd_int))) (pd_var 1)))) (fun sB HB CB clB fpB => (pd_var 11))))
  (psd_cons (psd_set 8 sc__law_finite.nd (pd_ixN rfl 7 (pd_callM rfl c__law_draw hr (by decide) 0 (pad_cons (pd_lenN rfl g_len 7) pad_nil))))
  (psd_cons (psd_tar2 rfl 9 10 rfl sc__law_finite.nd (pax_dat (pd_len rfl g_len (pd_ixN rfl 6 pd_int)) (pax_dat (pd_len rfl g_len (pd_ixN rfl 8 pd_int)) pax_nil)))
  (psd_cons (psd_set 3 sc__law_finite.nd (pd_add rfl (pd_fr (pdf_lc (own := [("row", 12)]) rfl sc__law_finite.nd (pid_list rfl (pd_ixN rfl 6 pd_int)) (blkOk_by (N := ["m", "most", "found", "rows", "words", "letters", "first", "rest", "other", "high", "more", "one", "row"]) (sc := defScope s__law_finite) (by decide +kernel)) (fun sB HB CB clB fpB => (pgd_name 12 sc__law_finite.nd)) (fun sB HB CB clB fpB => pts_none) (fun sB HB CB clB fpB => (pd_add rfl (pd_fr (pdf_lstN rfl g_list 12)) (pd_mul rfl (pd_fr (pdf_lst (pad_cons pd_int pad_nil))) (pd_var 10)))))) (pd_fr (pdf_lc (own := [("row", 12)]) rfl sc__law_finite.nd (pid_list rfl (pd_ixN rfl 8 pd_int)) (blkOk_by (N := ["m", "most", "found", "rows", "words", "letters", "first", "rest", "other", "high", "more", "one", "row"]) (sc := defScope s__law_finite) (by decide +kernel)) (fun sB HB CB clB fpB => (pgd_name 12 sc__law_finite.nd)) (fun sB HB CB clB fpB => pts_none) (fun sB HB CB clB fpB => (pd_add rfl (pd_mul rfl (pd_fr (pdf_lst (pad_cons pd_int pad_nil))) (pd_var 9)) (pd_fr (pdf_lstN rfl g_list 12))))))))
  (psd_one (psd_ret (pd_fr (pdf_lst (pad_cons (pd_callM rfl c__law_shuffled hr (by decide) 0 (pad_cons (pd_var 3) pad_nil)) (pad_cons (pd_mul rfl (pd_ixN rfl 6 pd_int) (pd_ixN rfl 8 pd_int)) (pad_cons (pd_add rfl (pd_ixN rfl 6 pd_int) (pd_ixN rfl 8 pd_int)) pad_nil))))))))))))))))))))
abbrev s__law_shuffled : Stmt := top 56
theorem sc__law_shuffled : FnScope ["m", "rows", "rest", "order", "one", "other"] ["m", "rows"] (defScope s__law_shuffled) := ⟨rfl, rfl, rfl, by decide +kernel, rfl, by decide +kernel, by decide +kernel⟩
theorem w__law_shuffled {P : Program} {w : World} {K : PySem.W.Frag} {mg : PySem.Str → Option Value} {base : Heap} (g_list : mg "list" = none) (g_range : mg "range" = none) (g_len : mg "len" = none) (c__law_draw : CalD P w K mg base 2 "_law_draw" true sp__law_draw) (qual : PySem.Str) (f : Addr) (cdv : Value) (A : Around) (outer : List Env) (s : Shared) (H : Hp) (E : XK) (M : Option Mc) (X0 : List Addr)
    (hr : Room 2 (A.deeper (PyProof.Rows.envOfC qual (defScope s__law_shuffled) s.heap.objs.size f cdv))) :
    PSs (cxOf CX0 P w K mg base ["m", "rows", "rest", "order", "one", "other"] qual (defScope s__law_shuffled) f cdv A outer s H E).nox (defBody s__law_shuffled) (LS ⟨K, M, X0, H, [3, 2]⟩ t__law_shuffled) :=
  (psd_cons (psd_tar2 rfl 2 3 rfl sc__law_shuffled.nd (pax_own (pdf_lr1 rfl g_list g_range (pd_lenN rfl g_len 1)) (pax_own (pdf_lst pad_nil) pax_nil)))
  (psd_cons (psd_while PassesOwn.never (ptd_frzT (ptd_cmp (OpR.or op_ne (op_neD hr.units)) (fit_ne rfl) (pd_var 2) (pd_fr (pdf_lst pad_nil)))) (psd_one (psd_appPop 3 2 (pd_callM rfl c__law_draw hr (by decide) 0 (pad_cons (pd_lenN rfl g_len 2) pad_nil)))))
  (psd_one (psd_ret (pd_fr (pdf_lc (own := [("one", 4)]) rfl sc__law_shuffled.nd (pid_list rfl (pd_var 3)) (blkOk_by (N := ["m", "rows", "rest", "order", "one", "other"]) (sc := defScope s__law_shuffled) (by decide +kernel)) (fun sB HB CB clB fpB => (pgd_name 4 sc__law_shuffled.nd)) (fun sB HB CB clB fpB => pts_none) (fun sB HB CB clB fpB => (pd_fr (pdf_lc (own := [("other", 5)]) rfl sc__law_shuffled.nd (pid_list rfl (pd_var 3)) (blkOk_by (N := ["m", "rows", "rest", "order", "one", "other"]) (sc := { kind := .function, names := [(".0", .local), ("one", .cell), ("order", .cell), ("rows", .cell)], isGenerator := false, isCoroutine := false }) (by decide +kernel)) (fun sB HB CB clB fpB => (pgd_name 5 sc__law_shuffled.nd)) (fun sB HB CB clB fpB => pts_none) (fun sB HB CB clB fpB => (pd_ix rfl (pd_ixN rfl 1 (pd_var 4)) (pd_var 5))))))))))))
abbrev s__law_heard : Stmt := top 57
abbrev s__law_line : Stmt := top 58
theorem sc__law_line : FnScope ["many", "first", "table", "one", "k"] ["many", "first"] (defScope s__law_line) := ⟨rfl, rfl, rfl, by decide +kernel, rfl, by decide +kernel, by decide +kernel⟩
end BW
namespace T7
open PySem L2 DL
abbrev s__law_draw : Stmt := BW.s__law_draw
def sp__law_mixed : DSp := fun ds k R => ∃ a n : Int, ds = [.int a, .int n] ∧ 0 ≤ a ∧ a < 1000000000000000 ∧ 0 ≤ n ∧ n < 1000000000000 ∧ ∀ r, 0 ≤ r → r < 306783377 → R (.int r) k
theorem sc__law_draw : FnScope ["m", "limit", "n", "lot", "here", "cell"] ["m", "limit"] (defScope s__law_draw) := ⟨rfl, rfl, rfl, by decide +kernel, rfl, by decide +kernel, by decide +kernel⟩
def sp__law_draw : DSp := fun ds k R => ∃ z : Int, ds = [.int z] ∧ 0 < z ∧ z < 2 ^ 200 ∧ k < 100000000000 ∧ ∀ d, 0 ≤ d → d < z → R (.int d) (k + 1)
structure Zt (hid X0 : List Addr) (H H' : Hp) : Prop where
  sub : Sub (wo H (hid ++ X0)) (wo H' (hid ++ X0))
  old : ∀ a ∈ X0, H' a = H a
  tb : TbK H H'
theorem Zt.refl {hid X0 : List Addr} {H : Hp} : Zt hid X0 H H := ⟨Sub.refl _, fun _ _ => rfl, .refl⟩
theorem Zt.trans {hid X0 : List Addr} {H H1 H2 : Hp} (a : Zt hid X0 H H1) (b : Zt hid X0 H1 H2) : Zt hid X0 H H2 := ⟨a.sub.trans b.sub, fun x h => (b.old x h).trans (a.old x h), a.tb.trans b.tb⟩
theorem Zt.new {hid X0 : List Addr} {H : Hp} {p : Addr} {o : HO} (hp : H p = none) (xs : ∀ a ∈ X0, H a ≠ none) : Zt hid X0 H (upd H p o) := ⟨wo_new hp, fun a ha => upd_ne fun z => xs a ha (by rw [z]; exact hp), .new hp⟩
theorem Zt.mut {hid X0 : List Addr} {H : Hp} {p : Addr} {o : HO} (hp : p ∈ hid) (xm : ∀ a ∈ X0, a ∉ hid) (tb : TbK H (upd H p o)) : Zt hid X0 H (upd H p o) := ⟨wo_mut (List.mem_append_left _ hp), fun a ha => upd_ne fun z => xm a ha (by rw [z]; exact hp), tb⟩
section
variable {P : Program} {w : World} {K : PySem.W.Frag} {mg : PySem.Str → Option Value} {base : Heap}
theorem call_mixed {K : PySem.W.Frag} {H : Hp} {a n : Int} {Q : VK} {E : XK} {Y : List Addr} (xs : ∀ a ∈ Y, H a ≠ none) (xt : ∀ a ∈ Y, ∀ ps, H a ≠ some (.tbl ps)) (a0 : 0 ≤ a) (a1 : a < 1000000000000000) (n0 : 0 ≤ n) (n1 : n < 1000000000000) (h : ∀ r, 0 ≤ r → r < 306783377 → ∀ H', Sub (wo H Y) (wo H' Y) → (∀ a ∈ Y, H' a = H a) → TbK H H' → Q (.int r) H') :
    spD K false sp__law_mixed [.int a, .int n] H Q E := by
  refine ⟨none, Y, 0, [.int a, .int n], _, fun d _ => ∃ r, d = .int r ∧ 0 ≤ r ∧ r < 306783377, ⟨rfl, rfl⟩, ⟨fun _ _ => by simp [Ml], xs, trivial, .cons (.int _) (.cons (.int _) .nil), xt⟩, ⟨a, n, rfl, a0, a1, n0, n1, fun r r0 r1 => ⟨r, rfl, r0, r1⟩⟩, ?_⟩
  rintro d k' ⟨r, rfl, r0, r1⟩ v H' af er
  cases er.intE
  exact h r r0 r1 H' af.sub af.old af.tb
theorem ixN_nat {n j : Nat} (hj : j < n) : ixN n (j : Int) = some j := by
  unfold ixN
  rw [if_pos (by omega), if_pos (by omega)]
  simp
theorem mk_inv {n : Nat} {pc pg : Addr} : valV [((Sum.inr "cells" : Key), V.ref pc), (Sum.inr "great", .ref pg), (Sum.inr "spot", .int n)] (Sum.inr "spot") = some (.int n) := by rfl
theorem mk_gr {n : Int} {pc pg : Addr} : valV [((Sum.inr "cells" : Key), V.ref pc), (Sum.inr "great", .ref pg), (Sum.inr "spot", .int n)] (Sum.inr "great") = some (.ref pg) := by rfl
theorem mk_ce {n : Int} {pc pg : Addr} : valV [((Sum.inr "cells" : Key), V.ref pc), (Sum.inr "great", .ref pg), (Sum.inr "spot", .int n)] (Sum.inr "cells") = some (.ref pc) := by rfl
theorem mk_put {n j : Int} {pc pg : Addr} : putK [((Sum.inr "cells" : Key), V.ref pc), (Sum.inr "great", .ref pg), (Sum.inr "spot", .int n)] (Sum.inr "spot") (.int j) = [((Sum.inr "cells" : Key), V.ref pc), (Sum.inr "great", .ref pg), (Sum.inr "spot", .int j)] := by rfl
theorem ok__law_draw {f fm : Addr} {fd : FuncData} (F : Fun K "_law_draw" "_law_draw" s__law_draw f fd) (c__law_mixed : CalD P w K mg base 1 "_law_mixed" false sp__law_mixed) (g_len : mg "len" = none) (g_int : mg "int" = none) : FnOk P w K mg base CX0 2 f fd ["m", "limit"] (spD K true sp__law_draw) := by
  refine F.ok sc__law_draw (fun vs H Q E h => ?_) (fun cdv A outer s H vs Q E hr h => ?_)
  · obtain ⟨M, X0, k, ds, ws, R, ⟨m, _, rfl⟩, a, ⟨z, rfl, _⟩, _⟩ := h
    have := a.args.len
    rw [List.length_cons, this]
    rfl
  · obtain ⟨M, X0, k, ds, ws, R, ⟨m, ⟨rfl, hkd⟩, rfl⟩, ⟨xm, xs, hmat, ar, xt⟩, ⟨z, rfl, z0, z1, hk, hR⟩, fin⟩ := h
    obtain ⟨cs, gs, n, mo, hnk, htb⟩ := hmat.dr hkd
    cases ar with
    | cons e1 e2 =>
      cases e2
      cases e1.intE
      obtain ⟨fm, fdm, psm, Gm, hmm, kpm, bm⟩ := c__law_mixed.ex
      have hu := hu_of hr
      refine ⟨_, pss_cons (ps_set (i := 2) sc__law_draw.nd rfl (.inl rfl) (pe_dget hu (pv 0) pe_str (fun _ _ => rfl)))
        (pss_cons (ps_dput hu (pv 0) pe_str (pe_op op_add (pv 2) pe_int) rfl)
        (pss_cons (ps_if (pt_cmpR (op_neD hr.units) (pe_dget hu (pv 0) pe_str (fun _ _ => rfl)) (pe_lst pa_nil) (nomark _))
          (pss_cons (ps_set (i := 3) sc__law_draw.nd rfl (.inl rfl) (pe_dget hu (pv 0) pe_str (fun _ _ => rfl)))
          (pss_cons (ps_set (i := 4) sc__law_draw.nd rfl (.inl rfl) (pe_op op_mod (pe_callTy call_int1 rfl g_int PyProof.Rows.boot_int (pa_cons (pv 2) pa_nil)) (pe_callB call_len_seq rfl g_len PySem.boot_len (pa_cons (pv 3) pa_nil))))
          (pss_cons (ps_set (i := 5) sc__law_draw.nd rfl (.inl rfl) (pe_ix ix_list (pv 3) (pv 4) (fun _ _ => rfl)))
          (pss_one (ps_if (pt_cmpR op_gt (pv 5) pe_int (nomark _))
            (pss_cons (ps_asg (pe_op op_fdivW (pv 5) (pv 1)) (pg_sub (pv 3) (pv 4) set_list)) (pss_one (ps_ret (pe_op op_mod (pe_callTy call_int1 rfl g_int PyProof.Rows.boot_int (pa_cons (pv 5) pa_nil)) (pv 1)))))
            pss_nil)))))
          pss_nil)
        (pss_cons (ps_set (i := 3) sc__law_draw.nd rfl (.inl rfl) (pe_dget hu (pv 0) pe_str (fun _ _ => rfl)))
        (pss_one (ps_ret (pe_op op_mod (pe_callTy call_int1 rfl g_int PyProof.Rows.boot_int (pa_cons (pe_call Gm hr rfl hmm kpm bm .nil pass0 (pa_cons (pe_call Gm hr rfl hmm kpm bm .nil pass0 (pa_cons (pe_op op_add (pe_ix ix_list (pv 3) (pe_op op_mod (pe_callTy call_int1 rfl g_int PyProof.Rows.boot_int (pa_cons (pv 2) pa_nil)) pe_int) (fun _ _ => rfl)) (pe_op op_mul pe_int (pe_op op_fdiv (pv 2) pe_int))) (pa_cons (pv 2) pa_nil)))
          (pa_cons (pe_op op_add (pv 2) pe_int) pa_nil))) pa_nil)) (pv 1))))))), ?_⟩
      have ne1 : m.pg ≠ m.pm := fun q => by have h := mo.hg; rw [q, mo.hm] at h; cases h
      have ne2 : m.pc ≠ m.pm := fun q => by have h := mo.hc; rw [q, mo.hm] at h; cases h
      have npcg : m.pc ≠ m.pg := fun q => by
        have h := mo.hg
        rw [← q, mo.hc] at h
        have h := congrArg List.length (HO.lst.inj (Option.some.inj h))
        rw [List.length_map, List.length_map, mo.lc] at h
        have := mo.lg
        omega
      have in1 : m.pm ∈ Ml (some m) := by simp [Ml]
      have in2 : m.pg ∈ Ml (some m) := by simp [Ml]
      -- n = m['spot']; m['spot'] = n + 1
      refine ⟨_, rfl, _, _, rfl, (mk_inv (n := n)) ▸ DGet.k (k := Sum.inr "spot") mo.hm, ?_⟩
      refine ⟨_, rfl, _, _, rfl, rfl, _, rfl, _, _, rfl, DPut.k (k := Sum.inr "spot") mo.hm (by show 3 < sizeLine; decide), ?_⟩
      rw [mk_put]
      generalize hH1 : upd H m.pm (.dK [((Sum.inr "cells" : Key), V.ref m.pc), (Sum.inr "great", .ref m.pg), (Sum.inr "spot", .int ((n : Int) + 1))]) = H1
      have hm1 : H1 m.pm = some (.dK [((Sum.inr "cells" : Key), V.ref m.pc), (Sum.inr "great", .ref m.pg), (Sum.inr "spot", .int ((n : Int) + 1))]) := by rw [← hH1]; exact upd_same
      have hc1 : H1 m.pc = some (.lst (cs.map V.int)) := by rw [← hH1, upd_ne ne2]; exact mo.hc
      have hg1 : H1 m.pg = some (.lst (gs.map V.int)) := by rw [← hH1, upd_ne ne1]; exact mo.hg
      have z01 : Zt (Ml (some m)) X0 H H1 := by rw [← hH1]; exact Zt.mut in1 xm (.at_ mo.hm)
      have xs1 : ∀ a ∈ X0, H1 a ≠ none := fun a ha => by rw [z01.old a ha]; exact xs a ha
      clear hH1
      -- m['great'] != []
      refine ⟨_, rfl, _, _, rfl, mk_gr (n := (n : Int) + 1) ▸ DGet.k (k := Sum.inr "great") hm1, Nat.zero_le _, fun p hp => ?_⟩
      generalize hH2 : upd H1 p (.lst []) = H2
      have kp : Sub H1 H2 := fun b o e => by rw [← hH2, upd_ne (ne_of_none e hp)]; exact e
      have hm2 := kp _ _ hm1
      have hc2 := kp _ _ hc1
      have hg2 := kp _ _ hg1
      have z02 : Zt (Ml (some m)) X0 H H2 := z01.trans (by rw [← hH2]; exact Zt.new hp xs1)
      have xs2 : ∀ a ∈ X0, H2 a ≠ none := fun a ha => by rw [z02.old a ha]; exact xs a ha
      have np : H2 p = some (.lst []) := by rw [← hH2]; exact upd_same
      clear hH2
      have dp : Dp K H2 (.ref m.pg) (.list (gs.map PyData.int)) := by
        have q := Rl.dp (K := K) (H := H2) (.lst (gs.map D.int)) (.lst hg2 (RlA.ints gs)) (plain_ints gs)
        show Dp K H2 (.ref m.pg) (.list (gs.map PyData.int))
        rw [← py_ints gs]
        exact q
      have sh : SeqAt.shaped (.list (gs.map PyData.int)) = true := by
        have q := okE_lstI gs
        unfold D.okE at q
        have q2 := (Bool.and_eq_true_iff.mp q).2
        have e : (D.lst (gs.map D.int)).py = .list (gs.map PyData.int) := by
          show PyData.list (pyA (gs.map D.int)) = _
          rw [py_ints]
        rw [e] at q2
        exact q2
      refine ⟨.list (gs.map PyData.int), .list [], dp, .lst (SqL.of np) .nil, sh, by decide, _, rfl, ?_⟩
      have ev : PyData.eqv (.list (gs.map PyData.int)) (.list []) = decide (gs = []) := by
        have q := eqv_ints gs []
        exact q
      rw [ev]
      -- the end: a remainder of something by z
      have fin' : ∀ (r : Int) (H' : Hp), Zt (Ml (some m)) X0 H H' → (∃ cs gs, MOk m H' cs gs (n + 1)) → Q (.int (r % z)) H' := fun r H' zt ⟨cs', gs', mo'⟩ =>
        fin (.int (r % z)) (k + 1) (hR _ (Int.emod_nonneg _ (by omega)) (Int.emod_lt_of_pos _ z0)) _ H' ⟨zt.sub, zt.old, .of hkd ⟨cs', gs', n + 1, mo', by omega, zt.tb.tabs _ htb⟩, zt.tb⟩ (.int _)
      -- behind the if: a cell is mixed
      have low : ∀ v : Option V, ∀ v4 v5 : Option V, (tSeq (tAsg (tDGet (tVar 0) (tC (.str "cells"))) (gName 3)) (tRet (tOp (rI (fun _ j => 0 < j) fun i j => .int (i % j)) (tCB (fun xs H Q => (∃ i, xs = [.int i] ∧ Q (.int i) H) ∨ ∃ k, xs = [.bl k] ∧ Q (.int (if k then 1 else 0)) H) (tCons (tCall (spD K false sp__law_mixed) [] E0 (tCons (tCall (spD K false sp__law_mixed) [] E0 (tCons (tOp (rI0 fun i j => .int (i + j)) (tOp (rIxL K) (tVar 3) (tOp (rI (fun _ j => 0 < j) fun i j => .int (i % j)) (tCB (fun xs H Q => (∃ i, xs = [.int i] ∧ Q (.int i) H) ∨ ∃ k, xs = [.bl k] ∧ Q (.int (if k then 1 else 0)) H) (tCons (tVar 2) tNil)) (tC (.int 64)))) (tOp (rI CMul fun i j => .int (i * j)) (tC (.int 31)) (tOp (rI CDiv fun i j => .int (i / j)) (tVar 2) (tC (.int 64))))) (tCons (tVar 2) tNil))) (tCons (tOp (rI0 fun i j => .int (i + j)) (tVar 2) (tC (.int 7))) tNil))) tNil)) (tVar 1))))
          { nx := fun _ H' => Q .non H', rt := Q } [some (.ref m.pm), some (.int z), some (.int n), v, v4, v5] H2 := fun v v4 v5 => by
        refine ⟨_, rfl, _, _, rfl, mk_ce (n := (n : Int) + 1) ▸ DGet.k (k := Sum.inr "cells") hm2, ?_⟩
        have hi : n % 64 < cs.length := by rw [mo.lc]; exact Nat.mod_lt _ (by decide)
        obtain ⟨x, hx⟩ : ∃ x, cs[n % 64]? = some x := ⟨cs[n % 64], by simp [hi]⟩
        have bx := mo.bc x (List.mem_of_getElem? hx)
        refine ⟨_, rfl, _, rfl, .inl ⟨_, rfl, _, _, rfl, rfl, by show (0 : Int) < 64; decide, _, _, _, V.int x, rfl, rfl, SqL.of hc2, ?_, ?_⟩⟩
        · have e : ((n : Int) % 64) = ((n % 64 : Nat) : Int) := by omega
          rw [e]
          exact atI_nat (by rw [List.getElem?_map, hx]; rfl)
        refine ⟨_, rfl, _, _, rfl, rfl, ⟨by decide, by decide⟩, _, _, rfl, rfl, .inl ⟨by decide, by decide⟩, _, _, rfl, rfl, _, rfl, ?_⟩
        have hY : ∀ a ∈ Ml (some m) ++ X0, H2 a ≠ none := fun a ha => by
          rcases List.mem_append.mp ha with ha | ha
          · simp [Ml] at ha
            rcases ha with rfl | rfl | rfl
            · rw [hm2]; simp
            · rw [hc2]; simp
            · rw [hg2]; simp
          · exact xs2 a ha
        have tY : ∀ a ∈ Ml (some m) ++ X0, ∀ ps, H2 a ≠ some (.tbl ps) := fun a ha ps => by
          rcases List.mem_append.mp ha with ha | ha
          · simp [Ml] at ha
            rcases ha with rfl | rfl | rfl
            · rw [hm2]; intro e; cases e
            · rw [hc2]; intro e; cases e
            · rw [hg2]; intro e; cases e
          · rw [z02.old a ha]; exact xt a ha ps
        refine call_mixed (E := E0) hY tY (by omega) (by omega) (by omega) (by omega) fun r r0 r1 H3 s3 o3 t3 => ?_
        refine ⟨_, rfl, _, _, rfl, rfl, ?_⟩
        refine call_mixed (E := E0) (fun a ha => by rw [o3 a ha]; exact hY a ha) (fun a ha => by rw [o3 a ha]; exact tY a ha) (by omega) (by omega) (by omega) (by omega) fun r' r0' r1' H4 s4 o4 t4 => ?_
        refine .inl ⟨_, rfl, _, rfl, _, _, rfl, rfl, z0, ?_⟩
        have o24 : ∀ a ∈ Ml (some m) ++ X0, H4 a = H2 a := fun a ha => (o4 a ha).trans (o3 a ha)
        have z04 : Zt (Ml (some m)) X0 H H4 := z02.trans ⟨s3.trans s4, fun a ha => o24 a (List.mem_append_right _ ha), t3.trans t4⟩
        exact fin' r' H4 z04 ⟨cs, gs, ⟨(o24 _ (by simp [Ml])).trans hm2, (o24 _ (by simp [Ml])).trans hc2, (o24 _ (by simp [Ml])).trans hg2, mo.lc, mo.bc, mo.lg, mo.bg⟩⟩
      by_cases hgs : gs = []
      · rw [decide_eq_true hgs]
        exact iteF (low _ _ _)
      · rw [decide_eq_false hgs]
        refine iteT ?_
        have lp : 0 < gs.length := List.length_pos_iff.mpr hgs
        refine ⟨_, rfl, _, _, rfl, mk_gr (n := (n : Int) + 1) ▸ DGet.k (k := Sum.inr "great") hm2, ?_⟩
        refine ⟨_, rfl, .inl ⟨_, rfl, _, rfl, _, _, rfl, .inl (SqL.of hg2), _, _, rfl, rfl, by rw [List.length_map]; omega, ?_⟩⟩
        have hi : n % gs.length < gs.length := Nat.mod_lt _ lp
        obtain ⟨x, hx⟩ : ∃ x, gs[n % gs.length]? = some x := ⟨gs[n % gs.length], by simp [hi]⟩
        have bx := mo.bg x (List.mem_of_getElem? hx)
        have en : ((n : Int) % ((gs.map V.int).length : Int)) = ((n % gs.length : Nat) : Int) := by rw [List.length_map]; omega
        refine ⟨_, rfl, _, rfl, _, _, _, V.int x, rfl, rfl, SqL.of hg2, by rw [en]; exact atI_nat (by rw [List.getElem?_map, hx]; rfl), ?_⟩
        refine ⟨_, rfl, _, _, rfl, rfl, _, rfl, ?_⟩
        by_cases hx0 : 0 < x
        · rw [decide_eq_true hx0]
          refine iteT ?_
          refine ⟨_, rfl, _, rfl, _, _, rfl, rfl, ⟨z0, ?_⟩, _, rfl, _, rfl, _, _, _, n % gs.length, rfl, rfl, hg2, ?_, ?_⟩
          · have : z.natAbs < 2 ^ 200 := by omega
            exact Nat.lt_of_lt_of_le (PySem.Flt.log2_lt_of (by decide) this) (by decide)
          · rw [en]; exact ixN_nat (by rw [List.length_map]; exact hi)
          · refine ⟨_, rfl, .inl ⟨_, rfl, _, rfl, _, _, rfl, rfl, z0, ?_⟩⟩
            have ne3 : m.pc ≠ m.pg := npcg
            refine fin' x _ (z02.trans (Zt.mut in2 xm (.at_ hg2))) ⟨cs, gs.set (n % gs.length) (x / z), ⟨?_, ?_, ?_, mo.lc, mo.bc, ?_, ?_⟩⟩
            · rw [upd_ne ne1.symm]; exact hm2
            · rw [upd_ne ne3]; exact hc2
            · rw [upd_same, List.map_set]
            · rw [List.length_set]; exact mo.lg
            · intro y hy
              rcases List.mem_or_eq_of_mem_set hy with h | h
              · exact mo.bg y h
              · rw [h]; exact Int.ediv_nonneg (by omega) (by omega)
        · rw [decide_eq_false hx0]
          exact iteF (low _ _ _)
end
end T7
namespace T7
open PySem L2 DL PyProof.Rows
abbrev s__law_folded : Stmt := BW.s__law_folded
theorem sc__law_folded : FnScope ["script", "found", "n", "cell"] ["script"] (defScope s__law_folded) := ⟨rfl, rfl, rfl, by decide +kernel, rfl, by decide +kernel, by decide +kernel⟩
abbrev t__law_folded : DS := (dSeq (dSetO 1 (dLc (iR1 (dC (.int 64))) (dgN 2) dY (dOp oAdd (dC (.int 17)) (dVar 2)) [2]))
  (dSeq (dFor (iScE 0) (dgTup 2 (dgCons (dgN 2) (dgCons (dgN 3) dgNil))) (dSix 1 (dOp oMod (dInt (dVar 2)) (dC (.int 64))) (dOp oMod (dInt (dOp oAdd (dOp oMul (dIxN 1 (dOp oMod (dInt (dVar 2)) (dC (.int 64)))) (dC (.int 48271))) (dVar 3))) (dC (.int 2147483647)))))
  (dSeq (dFor (iR2 (dC (.int 1)) (dC (.int 64))) (dgN 2) (dSix 1 (dVar 2) (dOp oMod (dInt (dOp oAdd (dIxN 1 (dVar 2)) (dOp oMul (dIxN 1 (dOp oSub (dVar 2) (dC (.int 1)))) (dC (.int 16807))))) (dC (.int 2147483647)))))
  (dRet (dVar 1)))))
theorem w__law_folded {P : Program} {w : World} {K : PySem.W.Frag} {mg : PySem.Str → Option Value} {base : Heap} (g_range : mg "range" = none) (g_enumerate : mg "enumerate" = none) (g_int : mg "int" = none) (qual : PySem.Str) (f : Addr) (cdv : Value) (A : Around) (outer : List Env) (s : Shared) (H : Hp) (E : XK) (M : Option Mc) (X0 : List Addr)
    (hr : Room 0 (A.deeper (PyProof.Rows.envOfC qual (defScope s__law_folded) s.heap.objs.size f cdv))) :
    PSs (cxOf CX0 P w K mg base ["script", "found", "n", "cell"] qual (defScope s__law_folded) f cdv A outer s H E).nox (defBody s__law_folded) (LS ⟨K, M, X0, H, [1]⟩ t__law_folded) :=
  (psd_cons (psd_setLcO 1 (own := [("n", 2)]) rfl sc__law_folded.nd (pid_r1 g_range pd_int) (blkOk_by (N := ["script", "found", "n", "cell"]) (sc := defScope s__law_folded) (by decide +kernel)) (fun _ _ _ _ _ => (pgd_name 2 sc__law_folded.nd)) (fun _ _ _ _ _ => pts_none) (fun _ _ _ _ _ => (pd_add rfl pd_int (pd_var 2))))
  (psd_cons (psd_for PassesOwn.never rfl (pid_scrE rfl 0 g_enumerate) (pgd_tup rfl rfl (pgds_cons (pgd_name 2 sc__law_folded.nd) (pgds_cons (pgd_name 3 sc__law_folded.nd) pgds_nil))) (psd_one (psd_six 1 (pd_mod (pd_int1 g_int (pd_var 2)) pd_int) (pd_mod (pd_int1 g_int (pd_add rfl (pd_mul rfl (pd_ixN rfl 1 (pd_mod (pd_int1 g_int (pd_var 2)) pd_int)) pd_int) (pd_var 3))) pd_int))))
  (psd_cons (psd_for PassesOwn.never rfl (pid_r2 g_range pd_int pd_int) (pgd_name 2 sc__law_folded.nd) (psd_one (psd_six 1 (pd_var 2) (pd_mod (pd_int1 g_int (pd_add rfl (pd_ixN rfl 1 (pd_var 2)) (pd_mul rfl (pd_ixN rfl 1 (pd_sub (pd_var 2) pd_int)) pd_int))) pd_int))))
  (psd_one (psd_ret (pd_var 1))))))
def sp__law_folded : List Int → (D → Prop) → Prop := fun ns R => ∀ cs : List Int, cs.length = 64 → (∀ x ∈ cs, 0 ≤ x ∧ x < 2147483647) → R (.lst (cs.map .int))
theorem r__law_folded (ns : List Int) (R : D → Prop) (h : sp__law_folded ns R) : t__law_folded { nx := fun _ => R .non, rt := fun d _ => R d } ⟨[], .scr ns :: List.replicate (4 - 1) .no, 0⟩ := by
  refine ⟨_, rfl, by decide, by decide, by decide, fun p hp => ⟨fun i acc k => k = 0 ∧ ∃ cs : List Int, acc = cs.map .int ∧ cs.length = i ∧ ∀ x ∈ cs, 0 ≤ x ∧ x < 2147483647, ?_, ?_, ?_⟩⟩
  · exact ⟨rfl, [], rfl, rfl, fun _ h => (nomatch h)⟩
  · rintro i d acc k hd ⟨rfl, cs, rfl, rfl, hc⟩ hl
    obtain ⟨hi, rfl⟩ := rngD_at hd
    have hi : cs.length < 64 := hi
    refine iteT ⟨_, rfl, ?_⟩
    refine ⟨rfl, cs ++ [17 + (0 + (cs.length : Int))], ?_, by simp, ?_⟩
    · rw [List.map_append]; rfl
    · intro x hx
      rcases List.mem_append.mp hx with h | h
      · exact hc x h
      · simp at h
        omega
  · rintro acc k ⟨rfl, cs, rfl, hc, hb⟩ hl q hq
    have hc : cs.length = 64 := by rw [hc, rngD_len]; rfl
    refine ⟨ns, rfl, fun i s' => ∃ (cs : List Int) (x y : Sl), s' = ⟨[q], [.scr ns, .own q (cs.map .int), x, y], 0⟩ ∧ cs.length = 64 ∧ ∀ x ∈ cs, 0 ≤ x ∧ x < 2147483647, ?_, ?_, ?_⟩
    · exact ⟨cs, _, _, rfl, hc, hb⟩
    · rintro i d s' hd ⟨cs, x, y, rfl, hc, hb⟩
      obtain ⟨e, he, rfl⟩ := enum_at hd
      rw [List.getElem?_map] at he
      obtain ⟨c, hc', rfl⟩ := Option.map_eq_some_iff.mp he
      refine ⟨rfl, rfl, ?_⟩
      have hj : i % 64 < cs.length := by rw [hc]; exact Nat.mod_lt _ (by decide)
      obtain ⟨v, hv⟩ : ∃ v, cs[i % 64]? = some v := ⟨cs[i % 64], by simp [hj]⟩
      have bv := hb v (List.mem_of_getElem? hv)
      have ei : (((0 + i : Nat) : Int) % 64) = ((i % 64 : Nat) : Int) := by omega
      have hv' : (cs.map D.int)[i % 64]? = some (.int v) := by rw [List.getElem?_map, hv]; rfl
      refine ⟨_, _, rfl, ?_⟩
      refine ⟨_, rfl, _, rfl, _, rfl, by omega, _, .int v, rfl, by rw [ei]; exact atI_nat hv', ?_⟩
      refine ⟨Or.inl ⟨by omega, by omega⟩, _, rfl, _, rfl, by omega, ?_⟩
      refine ⟨_, rfl, _, rfl, by omega, _, _, rfl, by rw [ei]; exact ixN_nat (by rw [List.length_map]; exact hj), ?_⟩
      refine ⟨cs.set (i % 64) ((v * 48271 + c) % 2147483647), _, _, by rw [List.map_set]; rfl, by rw [List.length_set]; exact hc, fun z hz => ?_⟩
      rcases List.mem_or_eq_of_mem_set hz with h | h
      · exact hb z h
      · omega
    · rintro s' ⟨cs, x, y, rfl, hc, hb⟩
      refine ⟨_, _, rfl, rfl, ⟨by decide, by decide, by decide, by decide⟩, fun i s' => ∃ (cs : List Int) (x : Sl), s' = ⟨[q], [.scr ns, .own q (cs.map .int), x, y], 0⟩ ∧ cs.length = 64 ∧ ∀ x ∈ cs, 0 ≤ x ∧ x < 2147483647, ⟨cs, _, rfl, hc, hb⟩, ?_, ?_⟩
      · rintro i d s' hd ⟨cs, x, rfl, hc, hb⟩
        obtain ⟨hi, rfl⟩ := rngD_at hd
        have hi : i < 63 := hi
        have j1 : i + 1 < cs.length := by omega
        have j0 : i < cs.length := by omega
        obtain ⟨v, hv⟩ : ∃ v, cs[i + 1]? = some v := ⟨cs[i + 1], by simp [j1]⟩
        obtain ⟨u, hu⟩ : ∃ u, cs[i]? = some u := ⟨cs[i], by simp [j0]⟩
        have bv := hb v (List.mem_of_getElem? hv)
        have bu := hb u (List.mem_of_getElem? hu)
        have hv' : (cs.map D.int)[i + 1]? = some (.int v) := by rw [List.getElem?_map, hv]; rfl
        have hu' : (cs.map D.int)[i]? = some (.int u) := by rw [List.getElem?_map, hu]; rfl
        have e1 : (1 + (i : Int)) = ((i + 1 : Nat) : Int) := by omega
        have e0 : (1 + (i : Int) - 1) = (i : Int) := by omega
        refine ⟨_, _, rfl, ?_⟩
        refine ⟨_, rfl, _, rfl, _, .int v, rfl, by rw [e1]; exact atI_nat hv', ?_⟩
        refine ⟨_, rfl, _, rfl, _, .int u, rfl, by rw [e0]; exact atI_nat hu', ?_⟩
        refine ⟨Or.inl ⟨by omega, by omega⟩, _, rfl, by omega, ?_⟩
        refine ⟨_, rfl, _, _, rfl, by rw [e1]; exact ixN_nat (by rw [List.length_map]; exact j1), ?_⟩
        refine ⟨cs.set (i + 1) ((v + u * 16807) % 2147483647), _, by rw [List.map_set]; rfl, by rw [List.length_set]; exact hc, fun z hz => ?_⟩
        rcases List.mem_or_eq_of_mem_set hz with h | h
        · exact hb z h
        · omega
      · rintro s' ⟨cs, x, rfl, hc, hb⟩ X
        exact ⟨_, rfl, h cs hc hb⟩
theorem ok__law_folded {P : Program} {w : World} {K : PySem.W.Frag} {mg : PySem.Str → Option Value} {base : Heap} {f : Addr} {fd : FuncData} (F : Fun K "_law_folded" "_law_folded" s__law_folded f fd) (g_range : mg "range" = none) (g_enumerate : mg "enumerate" = none) (g_int : mg "int" = none) : FnOk P w K mg base CX0 1 f fd ["script"] (spS K sp__law_folded) :=
  okS F sc__law_folded [1] ⟨t__law_folded, fun cdv A outer s H E hr => w__law_folded g_range g_enumerate g_int _ f cdv A outer s H E none [] hr, r__law_folded⟩
end T7
namespace T7
open PySem L2 DL
abbrev s__law_begun : Stmt := BW.s__law_begun
theorem sc__law_begun : FnScope ["script", "m", "cell"] ["script"] (defScope s__law_begun) := ⟨rfl, rfl, rfl, by decide +kernel, rfl, by decide +kernel, by decide +kernel⟩
def spBegun (K : PySem.W.Frag) : Sp := fun vs H Q _ => ∃ (a : Addr) (ns : List Int), vs = [.ref a] ∧ SqL K H a (ns.map V.int) ∧ ns.length ≤ 63 ∧ ∀ (m : Mc) (H' : Hp) (cs gs : List Int), TbK H H' → MOk m H' cs gs 0 → Q (.ref m.pm) H'
theorem PE.ex {X : Cx} {e : Expr} {K : PySem.W.Frag} {f : C → TE} (h : ∀ c, c.K = K → PE X e (f c)) : PE X e (fun σ H Q => ∃ c, c.K = K ∧ f c σ H Q) := ⟨fun pins s σ H Q I ⟨c, hc, q⟩ => (h c hc).run pins s σ H Q I q⟩
theorem rep0 {K : PySem.W.Frag} {H : Hp} {a : Addr} {ns : List Int} {σ : L2.St} {n : Nat} (h : SqL K H a (ns.map V.int)) (e : σ[0]? = some (some (.ref a))) (hl : σ.length = n + 1) : Rep ⟨K, none, [], H, []⟩ ⟨[], .scr ns :: List.replicate n .no, 0⟩ σ H := by
  refine ⟨Sub.refl _, fun _ h => (nomatch h), fun _ h => h, fun _ h => (nomatch h), fun _ h => (nomatch h), trivial, fun i z e' => ?_, fun i j p q ds es e' _ _ => ?_, ?_, .refl, fun _ h => (nomatch h)⟩
  · cases i with
    | zero =>
      obtain rfl : Sl.scr ns = z := Option.some.inj e'
      exact ⟨a, e, sl_in h⟩
    | succ i =>
      have e' : (List.replicate n Sl.no)[i]? = some z := e'
      rw [List.getElem?_replicate] at e'
      split at e'
      · cases e'; trivial
      · cases e'
  · have e' : (Sl.scr ns :: List.replicate n Sl.no)[i]? = some (.own p ds) := e'
    have mem := List.mem_of_getElem? e'
    simp at mem
  · show (Sl.scr ns :: List.replicate n Sl.no).length = σ.length
    simp [hl]
section
variable {P : Program} {w : World} {K : PySem.W.Frag} {mg : PySem.Str → Option Value} {base : Heap}
theorem ok__law_begun {f ff : Addr} {fd fdf : FuncData} (F : Fun K "_law_begun" "_law_begun" s__law_begun f fd) (Gf : FnOk P w K mg base CX0 1 ff fdf ["script"] (spS K sp__law_folded)) (hmf : mg "_law_folded" = some (.ref ff)) (kpf : PySem.W.keepIn K (.ref ff) = true) (bf : Binds K fdf ["script"] []) : FnOk P w K mg base CX0 2 f fd ["script"] (spBegun K) := by
  refine F.ok sc__law_begun (fun vs H Q E h => ?_) (fun cdv A outer s H vs Q E hr h => ?_)
  · obtain ⟨a, ns, rfl, _⟩ := h
    rfl
  · obtain ⟨a, ns, rfl, ha, hl, fin⟩ := h
    have hu := hu_of hr
    refine ⟨_, pss_cons (ps_set (i := 1) sc__law_begun.nd rfl (.inl rfl) (pe_disp (pps_cons pe_str (pe_call Gf hr rfl hmf kpf bf .nil pass0 (pa_cons (pv 0) pa_nil)) (pps_cons pe_str (pe_lst pa_nil) (pps_cons pe_str pe_int pps_nil))) rfl rfl (by simp) (by decide)))
      (pss_cons (ps_dput hu (pv 1) pe_str (PE.ex (K := K) (f := fun c => LF c (dLc (iScr 0) (dgN 2) dY (dIf (dTB (dOp oGe (dVar 2) (dOp oPow (dC (.int 10)) (dC (.int 18))))) (dVar 2) (dC (.int 0))) [2])) fun c hc => (pdf_lc (own := [("cell", 2)]) rfl sc__law_begun.nd (pid_scr hc 0) (blkOk_by (N := ["script", "m", "cell"]) (sc := defScope s__law_begun) (by decide +kernel)) (fun _ _ _ _ _ => (pgd_name 2 sc__law_begun.nd)) (fun _ _ _ _ _ => pts_none) (fun _ _ _ _ _ => (pd_if (ptd_cmp op_ge fit_ge (pd_var 2) (pd_pow pd_int pd_int)) (pd_var 2) pd_int)))) rfl)
      (pss_one (ps_ret (pv 1)))), ?_⟩
    intro p hp
    have s1 : Sub H (upd H p (.dK [])) := fun b o e => by rw [upd_ne (ne_of_none e hp)]; exact e
    refine ⟨_, rfl, ?_⟩
    refine ⟨a, ns, fun d => ∃ cs : List Int, d = .lst (cs.map .int) ∧ cs.length = 64 ∧ ∀ x ∈ cs, 0 ≤ x ∧ x < 2147483647, rfl, s1.sl ha, fun cs h1 h2 => ⟨cs, rfl, h1, h2⟩, ?_⟩
    rintro d ⟨cs, rfl, hc, hb⟩ v H2 s2 t2 rv
    obtain ⟨pc, vs, rfl, hpc, ra⟩ := rv.lstE
    obtain rfl := ra.ints_v
    have p2 : H2 p = some (.dK []) := s2.out upd_same
    refine ⟨Nat.zero_le _, fun q hq => ?_⟩
    have nqp : p ≠ q := ne_of_none p2 hq
    refine ⟨by rw [upd_ne nqp]; exact p2, [(Sum.inr "cells", .ref pc), (Sum.inr "great", .ref q), (Sum.inr "spot", .int 0)], rfl, by show 3 ≤ 15; decide, ?_⟩
    have mk : mergeK [] [((Sum.inr "cells" : Key), V.ref pc), (Sum.inr "great", .ref q), (Sum.inr "spot", .int 0)] = [((Sum.inr "cells" : Key), V.ref pc), (Sum.inr "great", .ref q), (Sum.inr "spot", .int 0)] := by rfl
    rw [mk]
    generalize hH4 : upd (upd H2 q (.lst [])) p (.dK [((Sum.inr "cells" : Key), V.ref pc), (Sum.inr "great", .ref q), (Sum.inr "spot", .int 0)]) = H4
    have npc : pc ≠ p := fun z => by rw [z, p2] at hpc; cases hpc
    have p4 : H4 p = some (.dK [((Sum.inr "cells" : Key), V.ref pc), (Sum.inr "great", .ref q), (Sum.inr "spot", .int 0)]) := by rw [← hH4]; exact upd_same
    have c4 : H4 pc = some (.lst (cs.map V.int)) := by rw [← hH4, upd_ne npc, upd_ne (ne_of_none hpc hq)]; exact hpc
    have t4 : TbK H H4 := by
      rw [← hH4]
      exact (TbK.new hp).trans (t2.trans ((TbK.new hq).trans (TbK.at_ (by rw [upd_ne nqp]; exact p2))))
    have s4 : ∀ b o, NoTb o → H b = some o → H4 b = some o := fun b o n e => by
      rw [← hH4]
      have e2 := s2.out (s1 _ _ e) n
      rw [upd_ne (ne_of_none e hp), upd_ne (ne_of_none e2 hq)]
      exact e2
    have a4 : SqL K H4 a (ns.map V.int) := by
      rcases ha with (h | ⟨o, h⟩) | h
      · exact .inl (.inl (s4 _ _ (by intro _ z; cases z) h))
      · exact .inl (.inr ⟨o, s4 _ _ (by intro _ z; cases z) h⟩)
      · exact .inr h
    clear hH4
    refine ⟨⟨K, none, [], H4, []⟩, rfl, ⟨[], .scr ns :: List.replicate 2 .no, 0⟩, fun ds k => ∃ gs : List Int, ds = gs.map .int ∧ gs.length ≤ 63 ∧ ∀ x ∈ gs, 0 ≤ x, rep0 a4 rfl rfl, ?_, ?_⟩
    · refine ⟨ns, rfl, by rw [List.length_map]; exact Nat.le_trans hl (by decide), fun p hp => ⟨fun i acc k => ∃ gs : List Int, acc = gs.map .int ∧ gs.length = i ∧ ∀ x ∈ gs, 0 ≤ x, ⟨[], rfl, rfl, fun _ h => (nomatch h)⟩, ?_, ?_⟩⟩
      · rintro i d acc k hd ⟨gs, rfl, rfl, hb⟩ _
        rw [List.getElem?_map] at hd
        obtain ⟨c, hc', rfl⟩ := Option.map_eq_some_iff.mp hd
        have fin2 : ∀ z : Int, 0 ≤ z → ∃ gs' : List Int, gs.map D.int ++ [.int z] = gs'.map .int ∧ gs'.length = gs.length + 1 ∧ ∀ x ∈ gs', 0 ≤ x := fun z hz => ⟨gs ++ [z], by rw [List.map_append]; rfl, by simp, fun x hx => by
          rcases List.mem_append.mp hx with h | h
          · exact hb x h
          · simp at h; omega⟩
        refine iteT ⟨_, rfl, ⟨by decide, by decide, by decide⟩, _, rfl, ?_⟩
        by_cases h : ((10 : Int) ^ (18 : Int).toNat ≤ c)
        · rw [decide_eq_true h]
          exact iteT ⟨_, rfl, fin2 c (by have : (0 : Int) ≤ (10 : Int) ^ (18 : Int).toNat := by decide
                                         omega)⟩
        · rw [decide_eq_false h]
          exact iteF (fin2 0 (by decide))
      · rintro acc k ⟨gs, rfl, hg, hb⟩ _
        exact ⟨gs, rfl, by rw [hg, List.length_map]; exact hl, hb⟩
    · rintro ds k ⟨gs, rfl, hg, hb2⟩ g H5 nl
      obtain ⟨vs, hg5, ra5⟩ := nl.vals
      obtain rfl := ra5.ints_v
      have out : ∀ b o, NoTb o → H4 b = some o → H5 b = some o := fun b o n e => (wo_ne (nl.sub b o (wo_of (by simp [Ml]) e n))).2
      have p5 := out _ _ (by intro _ z; cases z) p4
      have c5 := out _ _ (by intro _ z; cases z) c4
      have ngp : p ≠ g := fun z => by rw [← z, p5] at hg5; cases hg5
      refine ⟨_, rfl, p, _, rfl, DPut.k (k := Sum.inr "great") p5 (by show 3 < sizeLine; decide), ?_⟩
      have mk2 : putK [((Sum.inr "cells" : Key), V.ref pc), (Sum.inr "great", .ref q), (Sum.inr "spot", .int 0)] (Sum.inr "great") (.ref g) = [((Sum.inr "cells" : Key), V.ref pc), (Sum.inr "great", .ref g), (Sum.inr "spot", .int 0)] := by rfl
      rw [mk2]
      --show tRet (tVar 1) _ _ (upd H5 p (.dK [((Sum.inr "cells" : Key), V.ref pc), (Sum.inr "great", .ref g), (Sum.inr "spot", .int 0)]))
      refine ⟨_, rfl, fin ⟨p, pc, g, [], none⟩ _ cs gs ?_ ⟨upd_same, by rw [upd_ne npc]; exact c5, by rw [upd_ne (Ne.symm ngp)]; exact hg5, hc, hb, hg, hb2⟩⟩
      exact t4.trans (nl.rep.tb.trans (.at_ p5))
end
end T7
namespace BW
open PySem L2 DL
section
variable {P : Program} {w : World} {K : PySem.W.Frag} {mg : PySem.Str → Option Value} {base : Heap}
theorem ok__law_tableS {f : Addr} {fd : FuncData} (F : Fun K "_law_table" "_law_table" s__law_table f fd) (g_range : mg "range" = none) (g_len : mg "len" = none) (c__law_draw : CalD P w K mg base 2 "_law_draw" true sp__law_draw) : FnOk P w K mg base CX0 3 f fd ["m", "many", "some"] (spD K true sp__law_tableS) := by
  refine F.ok sc__law_table (fun vs H Q E h => ?_) (fun cdv A outer s H vs Q E hr h => ?_)
  · obtain ⟨M, X0, k, ds, ws, R, ⟨m, _, rfl⟩, a, ⟨n, zs, rfl, _⟩, _⟩ := h
    have := a.args.len
    rw [List.length_cons, this]
    rfl
  · obtain ⟨M, X0, k, ds, ws, R, ⟨m, ⟨rfl, hkd⟩, rfl⟩, ⟨xm, xs, hm, ar, xt⟩, ⟨n, zs, rfl, n1, n6, zne, zl, zal, hk, hR⟩, fin⟩ := h
    obtain ⟨u2, rfl, ru⟩ : ∃ u2, ws = [V.int n, u2] ∧ Rl K (wo H (Ml (some m) ++ X0)) u2 (.lst (zs.map .int)) := by
      cases ar with
      | cons h1 h2 =>
        cases h2 with
        | cons h3 h4 => cases h4; cases h1.intE; exact ⟨_, rfl, h3⟩
    clear ar
    refine ⟨_, pss_cons (ps_setLc (i := 3) (own := [("k", 7)]) rfl sc__law_table.nd rfl rfl (sw_true rfl rfl rfl (by decide +kernel)) (pi_range1 rfl g_range (pa_cons (pv 1) pa_nil) rfl) (blkOk_by (N := ["m", "many", "some", "rows", "one", "other", "bond_so", "k"]) (sc := defScope s__law_table) (by decide +kernel)) (fun _ _ _ _ _ => pg_name (i := 7) sc__law_table.nd rfl (.inl rfl)) (fun _ _ _ _ _ => pts_nil) (fun _ _ _ _ _ => pe_op op_rep (pe_lst (pa_cons pe_int pa_nil)) (pv 1)))
    (pss_cons (ps_for PassesOwn.never rfl (pi_range1 rfl g_range (pa_cons (pv 1) pa_nil) rfl) (pg_name (i := 4) sc__law_table.nd rfl (.inl rfl))
      (pss_one (ps_for PassesOwn.never rfl (pi_range1 rfl g_range (pa_cons (pv 4) pa_nil) rfl) (pg_name (i := 5) sc__law_table.nd rfl (.inl rfl))
        (pss_cons (ps_set (i := 6) sc__law_table.nd rfl (.inl rfl) (PE.exE (K := K) (t := t_k2) fun c hc => pd_ixN hc 2 (pd_callM hc c__law_draw hr (by decide) 0 (pad_cons (pd_lenN hc g_len 2) pad_nil))))
        (pss_cons (ps_asg (pv 6) (pg_sub (pe_ix ix_list (pv 3) (pv 4) (fun _ _ => rfl)) (pv 5) set_list))
        (pss_one (ps_asg (pv 6) (pg_sub (pe_ix ix_list (pv 3) (pv 5) (fun _ _ => rfl)) (pv 4) set_list))))))))
    (pss_one (ps_ret (pv 3)))), ?_⟩
    have xs1 : ∀ a ∈ Ml (some m) ++ X0, H a ≠ none := fun a ha => (List.mem_append.mp ha).elim (hm.there a) (xs a)
    have mlH : ∀ a, H a = none → a ∉ Ml (some m) := fun a ha z => hm.there a z ha
    show tSeq (tAsg (tLc (iRng1 (tCons (tVar 1) tNil)) (gName 7) tYes tOnes [7]) (gName 3)) _ _ (L2.start ["m", "many", "some", "rows", "one", "other", "bond_so", "k"] [V.ref m.pm, V.int n, u2]) H
    refine seqAsg ?_
    refine nest_tab2 xs1 n6 rfl fun p qs H2 kp hp0 hq0 mx => ?_
    have mp := mlH p hp0
    have mq : ∀ q ∈ qs, q ∉ Ml (some m) := fun q h => mlH q (hq0 q h)
    have kp2 : Keep (some m) X0 H H2 := ⟨fun a o _ e t => kp.at (by simp [Ml]) e t, kp.tb, fun a ha => kp.old a (List.mem_append_right _ ha)⟩
    have hm2 : MAt (some m) H2 k := hm.eq (fun a ha _ => kp.old a (List.mem_append_left _ ha)) kp.tb
    have s9 : S9 m n u2 p ((L2.start ["m", "many", "some", "rows", "one", "other", "bond_so", "k"] [V.ref m.pm, V.int n, u2]).set 3 (some (V.ref p))) := ⟨rfl, rfl, rfl, rfl, rfl, hkd⟩
    have mxK : ∀ {H' H'' : Hp} {g : Nat → Nat → Int}, Mx H' p qs (fm n g) → Keep (some m) X0 H' H'' → Mx H'' p qs (fm n g) := fun {H' H'' g} x kk => ⟨kk.at mp x.top, x.len, fun i q r h1 h2 => kk.at (mq q (List.mem_of_getElem? h1)) (x.row i q r h1 h2), x.nd, x.out⟩
    have xsK : ∀ {H' : Hp}, Keep (some m) X0 H H' → ∀ a ∈ X0, H' a ≠ none := fun {H'} k a ha => by rw [k.old a ha]; exact xs a ha
    have xtK : ∀ {H' : Hp}, Keep (some m) X0 H H' → ∀ a ∈ X0, ∀ ps, H' a ≠ some (.tbl ps) := fun {H'} k a ha => by rw [k.old a ha]; exact xt a ha
    have ruK : ∀ {H' : Hp} {k' : Nat}, Keep (some m) X0 H H' → MAt (some m) H' k' → Rl K (wo H' (Ml (some m) ++ X0)) u2 (.lst (zs.map .int)) := fun {H' k'} kk mm => ru.mono (kk.aft (K := K) mm).1
    refine ⟨_, s9.e1, n, rfl, by omega, by omega, ?_⟩
    rw [Int.toNat_natCast]
    refine ⟨fun i mm σ' H' => mm = n - i ∧ i ≤ n ∧ S9 m n u2 p σ' ∧ ∃ (g : Nat → Nat → Int) (k' : Nat), Gq g i 0 ∧ k ≤ k' ∧ k' ≤ k + 6 * i ∧ Keep (some m) X0 H H' ∧ MAt (some m) H' k' ∧ Mx H' p qs (fm n g), ⟨n, rfl, Nat.zero_le _, s9, _, k, gq0, Nat.le_refl _, Nat.le_refl _, kp2, hm2, mx⟩, ?_⟩
    rintro i mm σ' H' ⟨rfl, hi, s9', g, k', gg, ka, kb, kp', hm', mx'⟩
    by_cases hlt : i < n
    · refine .inr ⟨hlt, fun σ2 H2 => S9 m n u2 p σ2 ∧ ∃ (g : Nat → Nat → Int) (k' : Nat), Gq g (i + 1) 0 ∧ k ≤ k' ∧ k' ≤ k + 6 * (i + 1) ∧ Keep (some m) X0 H H2 ∧ MAt (some m) H2 k' ∧ Mx H2 p qs (fm n g), fun σ2 H2 h => ⟨n - (i + 1), by omega, rfl, hlt, h⟩, ?_⟩
      rintro x H'' ⟨rfl, rfl⟩
      have s4 := s9'.set (i := 4) (by decide) (some (V.int (0 + (i : Int))))
      have t4 : (σ'.set 4 (some (V.int (0 + (i : Int)))))[4]? = some (some (V.int (0 + (i : Int)))) := List.getElem?_set_self (by rw [s9'.len]; decide)
      refine ⟨_, t4, 0 + (i : Int), rfl, by omega, by omega, ?_⟩
      have en : (0 + (i : Int)).toNat = i := by omega
      rw [en]
      refine ⟨fun j mm σ' H' => mm = i - j ∧ j ≤ i ∧ S9 m n u2 p σ' ∧ σ'[4]? = some (some (V.int (0 + (i : Int)))) ∧ ∃ (g : Nat → Nat → Int) (k' : Nat), Gq g i j ∧ k ≤ k' ∧ k' ≤ k + 6 * i + j ∧ Keep (some m) X0 H H' ∧ MAt (some m) H' k' ∧ Mx H' p qs (fm n g), ⟨i, rfl, Nat.zero_le _, s4, t4, g, k', gg, ka, by omega, kp', hm', mx'⟩, ?_⟩
      clear s4 t4 gg ka kb kp' hm' mx' g k'
      rintro j mm σ' H' ⟨rfl, hj, s9', t4, g, k', gg, ka, kb, kp', hm', mx'⟩
      by_cases hjt : j < i
      · refine .inr ⟨hjt, fun σ2 H2 => S9 m n u2 p σ2 ∧ σ2[4]? = some (some (V.int (0 + (i : Int)))) ∧ ∃ (g : Nat → Nat → Int) (k' : Nat), Gq g i (j + 1) ∧ k ≤ k' ∧ k' ≤ k + 6 * i + (j + 1) ∧ Keep (some m) X0 H H2 ∧ MAt (some m) H2 k' ∧ Mx H2 p qs (fm n g), fun σ2 H2 h => ⟨i - (j + 1), by omega, rfl, hjt, h⟩, ?_⟩
        rintro x H'' ⟨rfl, rfl⟩
        have s5 := s9'.set (i := 5) (by decide) (some (V.int (0 + (j : Int))))
        have t5 : (σ'.set 5 (some (V.int (0 + (j : Int)))))[5]? = some (some (V.int (0 + (j : Int)))) := List.getElem?_set_self (by rw [s9'.len]; decide)
        have u4 : (σ'.set 5 (some (V.int (0 + (j : Int)))))[4]? = some (some (V.int (0 + (i : Int)))) := by rw [List.getElem?_set_ne (by decide)]; exact t4
        refine seqAsg (le9 xm (xsK kp') (xtK kp') s5 (ruK kp' hm') hm' (t := t_k2) (R := fun d kz => k' ≤ kz ∧ kz ≤ k' + 1 ∧ ∃ v : Int, d = .int v ∧ AL v) ?_ fun d kz hd u Hc kc mc rv => ?_)
        · have ll : (zs.map D.int).length = zs.length := List.length_map ..
          have lp : 0 < zs.length := List.length_pos_iff.mpr zne
          refine ⟨_, rfl, rfl, _, rfl, _, rfl, by rw [ll]; omega, by rw [ll]; omega, by show k' < _; omega, fun z z0 z1 => ?_⟩
          rw [ll] at z1
          obtain ⟨b, rfl⟩ : ∃ b : Nat, z = (b : Int) := ⟨z.toNat, by omega⟩
          have hb : b < zs.length := by omega
          exact ⟨_, .int _, rfl, atM (xs := zs) (f := D.int) 0 hb, by show k' ≤ k' + 1; omega, by show k' + 1 ≤ _; omega, _, rfl, zal _ (List.mem_of_getElem? (getD_get (d := 0) hb))⟩
        · obtain ⟨kz1, kz2, v, rfl, hv⟩ := hd
          cases rv.intE
          have s6 := s5.set (i := 6) (by decide) (some (V.int v))
          have xc := mxK mx' kc
          have zk := kp'.trans kc
          refine st_two (K := K) (a := i) (b := j) (x := 0 + (i : Int)) (y := 0 + (j : Int)) (by omega) (by omega) xc hlt (by omega) (by omega) s6.e3 (by rw [List.getElem?_set_ne (by decide)]; exact u4) (by rw [List.getElem?_set_ne (by decide)]; exact t5) (List.getElem?_set_self (by rw [s5.len]; decide)) fun H9 kp9 tb9 mx9 => ?_
          refine ⟨s6, by rw [List.getElem?_set_ne (by decide)]; exact u4, _, kz, gg.sw hjt hv, by omega, by omega, ⟨fun a o ha e t => kp9 a o (fun z => by have := hq0 a z; rw [e] at this; cases this) (zk.ob a o ha e t), zk.tb.trans tb9, fun a ha => ?_⟩, mc.eq (fun a ha hn => ?_) tb9, mx9⟩
          · cases e : Hc a with
            | none => rw [zk.old a ha] at e; exact absurd e (xs a ha)
            | some o => exact (kp9 a o (fun z => xs a ha (hq0 a z)) e).trans (e.symm.trans (zk.old a ha))
          · cases e : Hc a with
            | none => exact absurd e hn
            | some o => exact kp9 a o (fun z => mq a z ha) e
      · refine .inl ⟨by show i ≤ j; omega, ?_⟩
        have e : j = i := by omega
        subst e
        exact ⟨s9', g, k', gg.next, ka, by omega, kp', hm', mx'⟩
    · refine .inl ⟨by show n ≤ i; omega, ?_⟩
      have e : i = n := by omega
      subst e
      refine ⟨_, s9'.e3, ?_⟩
      have hidN : ∀ a, H a = none → a ∉ Ml (some m) ++ X0 := fun a ha z => by
        rcases List.mem_append.mp z with z | z
        · exact mlH a ha z
        · exact xs a z ha
      have rlM := mx'.rl (K := K) (hidN p hp0) fun q hq => hidN q (hq0 q hq)
      exact fin (lM (fm i g)) k' (hR (fm i g) k' (tab_gq n1 n6 gg) (fm_len _ _) (by omega) (by omega)) _ _ (kp'.aft hm') rlM
end
end BW
set_option maxHeartbeats 1000000
namespace BW
open PySem L2 DL
section
variable {P : Program} {w : World} {K : PySem.W.Frag} {mg : PySem.Str → Option Value} {base : Heap}
theorem ok__law_lineL {f : Addr} {fd : FuncData} (F : Fun K "_law_line" "_law_line" s__law_line f fd) (g_range : mg "range" = none) : FnOk P w K mg base CX0 1 f fd ["many", "first"] spLine := by
  refine F.ok sc__law_line (fun vs H Q E h => ?_) (fun cdv A outer s H vs Q E hr h => ?_)
  · obtain ⟨X0, n, v, rfl, _⟩ := h
    rfl
  · obtain ⟨X0, n, v, rfl, n1, n6, xs, fin⟩ := h
    refine ⟨_, pss_cons (ps_setLc (i := 2) (own := [("k", 4)]) rfl sc__law_line.nd rfl rfl (sw_true rfl rfl rfl (by decide +kernel)) (pi_range1 rfl g_range (pa_cons (pv 0) pa_nil) rfl) (blkOk_by (N := ["many", "first", "table", "one", "k"]) (sc := defScope s__law_line) (by decide +kernel)) (fun _ _ _ _ _ => pg_name (i := 4) sc__law_line.nd rfl (.inl rfl)) (fun _ _ _ _ _ => pts_nil) (fun _ _ _ _ _ => pe_op op_rep (pe_lst (pa_cons pe_int pa_nil)) (pv 0)))
    (pss_cons (ps_for PassesOwn.never rfl (pi_range1 rfl g_range (pa_cons (pv 0) pa_nil) rfl) (pg_name (i := 3) sc__law_line.nd rfl (.inl rfl))
      (pss_cons (ps_asg pe_int (pg_sub (pe_ix ix_list (pv 2) (pv 3) (fun _ _ => rfl)) (pv 3) set_list))
      (pss_one (ps_if (pt_cmpR op_gt (pv 3) pe_int rfl) (pss_one (ps_asg (pe_tup (pa_cons pe_int (pa_cons pe_int pa_nil))) (pg_tup rfl (pgs_cons (pg_sub (pe_ix ix_list (pv 2) (pv 3) (fun _ _ => rfl)) (pe_op op_sub (pv 3) pe_int) set_list) (pgs_cons (pg_sub (pe_ix ix_list (pv 2) (pe_op op_sub (pv 3) pe_int) (fun _ _ => rfl)) (pv 3) set_list) pgs_nil))))) pss_nil))))
    (pss_cons (ps_if (pt_cmpR op_gt (pv 0) pe_int rfl) (pss_one (ps_asg (pe_tup (pa_cons (pv 1) (pa_cons (pv 1) pa_nil))) (pg_tup rfl (pgs_cons (pg_sub (pe_ix ix_list (pv 2) pe_int (fun _ _ => rfl)) pe_int set_list) (pgs_cons (pg_sub (pe_ix ix_list (pv 2) pe_int (fun _ _ => rfl)) pe_int set_list) pgs_nil))))) pss_nil)
    (pss_one (ps_ret (pv 2))))), ?_⟩
    show tSeq (tAsg (tLc (iRng1 (tCons (tVar 0) tNil)) (gName 4) tYes tTwos [4]) (gName 2)) _ _ (L2.start ["many", "first", "table", "one", "k"] [V.int n, V.int v]) H
    refine seqAsg ?_
    refine nest_tab3 xs n6 rfl fun p qs H2 kp hp0 hq0 mx => ?_
    have s0 : SLn n v p ((L2.start ["many", "first", "table", "one", "k"] [V.int n, V.int v]).set 2 (some (V.ref p))) := ⟨rfl, rfl, rfl, rfl⟩
    rw [← gl_0] at mx
    have one3 : ∀ (σ : L2.St) (y : Int), σ[3]? = some (some (V.int y)) → ∀ (a : Nat), y = (a : Int) → ∀ H R, R (V.int a) H → tVar 3 σ H R := fun σ y e a ea H R h => ⟨_, e, ea ▸ h⟩
    refine ⟨_, s0.e0, n, rfl, by omega, by omega, ?_⟩
    rw [Int.toNat_natCast]
    refine ⟨fun i mm σ' H' => mm = n - i ∧ i ≤ n ∧ SLn n v p σ' ∧ Keep none X0 H H' ∧ Mx H' p qs (fm n (gl i)), ⟨n, rfl, Nat.zero_le _, s0, kp, mx⟩, ?_⟩
    rintro i mm σ' H' ⟨rfl, hi, s1, kp', mx'⟩
    by_cases hlt : i < n
    · refine .inr ⟨hlt, fun σ2 H2 => SLn n v p σ2 ∧ Keep none X0 H H2 ∧ Mx H2 p qs (fm n (gl (i + 1))), fun σ2 H2 h => ⟨n - (i + 1), by omega, rfl, hlt, h⟩, ?_⟩
      rintro x H'' ⟨rfl, rfl⟩
      have s3 := s1.set (i := 3) (by decide) (some (V.int (0 + (i : Int))))
      have t3 : (σ'.set 3 (some (V.int (0 + (i : Int)))))[3]? = some (some (V.int (0 + (i : Int)))) := List.getElem?_set_self (by rw [s1.len]; decide)
      refine sub_tab (K := K) (f := gl i) (a := i) (b := i) mx' hlt hlt s3.e2 (one3 _ _ t3 i (by omega)) (one3 _ _ t3 i (by omega)) fun H3 k3 b3 m3 => ?_
      have kp3 := Keep.stores kp' xs hq0 k3 b3
      refine ⟨_, t3, _, _, rfl, rfl, _, rfl, ?_⟩
      cases i with
      | zero =>
        rw [← gl_1] at m3
        exact iteF ⟨s3, kp3, m3⟩
      | succ i =>
        rw [decide_eq_true (by omega)]
        refine iteT ⟨by show 2 ≤ sizeLine; decide, fun T hT => ⟨T, [.int 3, .int 3], rfl, SqT.of upd_same, rfl, _, _, rfl, ?_⟩⟩
        have mT := m3.keepT (o := .tup [V.int 3, V.int 3]) hT
        have kT : Keep none X0 H (upd H3 T (.tup [V.int 3, V.int 3])) := kp3.new xs hT
        have sb : ∀ H R, R (V.int (i : Nat)) H → tOp (rI0 fun i j => .int (i - j)) (tVar 3) (tC (V.int 1)) (σ'.set 3 (some (V.int (0 + ((i + 1 : Nat) : Int))))) H R := fun H R h => ⟨_, t3, _, _, rfl, rfl, by
          show R (V.int ((0 : Int) + ((i + 1 : Nat) : Int) - 1)) H
          rw [show (0 : Int) + ((i + 1 : Nat) : Int) - 1 = (i : Int) by omega]; exact h⟩
        refine sub_tab (K := K) (a := i + 1) (b := i) mT hlt (by omega) s3.e2 (one3 _ _ t3 (i + 1) (by omega)) sb fun H4 k4 b4 m4 => ⟨_, _, rfl, ?_⟩
        have kp4 := Keep.stores kT xs hq0 k4 b4
        refine sub_tab (K := K) (a := i) (b := i + 1) m4 (by omega) hlt s3.e2 sb (one3 _ _ t3 (i + 1) (by omega)) fun H5 k5 b5 m5 => ⟨rfl, ?_⟩
        rw [← gl_s] at m5
        exact ⟨s3, Keep.stores kp4 xs hq0 k5 b5, m5⟩
    · refine .inl ⟨by show n ≤ i; omega, ?_⟩
      obtain rfl : i = n := by omega
      refine ⟨_, s1.e0, _, _, rfl, rfl, _, rfl, ?_⟩
      by_cases h1 : 1 < i
      · rw [decide_eq_true (by omega)]
        refine iteT ⟨_, s1.e1, _, s1.e1, by show 2 ≤ sizeLine; decide, fun T hT => ⟨T, [.int v, .int v], rfl, SqT.of upd_same, rfl, _, _, rfl, ?_⟩⟩
        have mT := mx'.keepT (o := .tup [V.int v, V.int v]) hT
        have kT : Keep none X0 H (upd H' T (.tup [V.int v, V.int v])) := kp'.new xs hT
        refine sub_tab (K := K) (a := 0) (b := 1) mT (by omega) h1 s1.e2 (fun _ _ h => h) (fun _ _ h => h) fun H4 k4 b4 m4 => ⟨_, _, rfl, ?_⟩
        have kp4 := Keep.stores kT xs hq0 k4 b4
        refine sub_tab (K := K) (a := 1) (b := 0) m4 h1 (by omega) s1.e2 (fun _ _ h => h) (fun _ _ h => h) fun H5 k5 b5 m5 => ⟨rfl, ?_⟩
        refine ⟨_, s1.e2, fin p qs H5 (Keep.stores kp4 xs hq0 k5 b5) hp0 hq0 ?_⟩
        unfold lnM
        rw [if_pos h1]
        exact m5
      · rw [decide_eq_false (by omega)]
        refine iteF ⟨_, s1.e2, fin p qs H' kp' hp0 hq0 ?_⟩
        unfold lnM
        rw [if_neg h1]
        exact mx'
theorem ok__law_line {f : Addr} {fd : FuncData} (F : FnOk P w K mg base CX0 1 f fd ["many", "first"] spLine) : FnOk P w K mg base CX0 1 f fd ["many", "first"] (spD K false sp__law_line) :=
  F.imp fun vs H Q E h => line_imp h
end
end BW
namespace BW
open PySem L2 DL
theorem HNnd : HN.Nodup := by decide +kernel
theorem w_heard {P : Program} {w : World} {K : PySem.W.Frag} {mg : PySem.Str → Option Value} {base : Heap} (g_isinstance : mg "isinstance" = none) (g_ValueError : mg "ValueError" = none) (g_zip : mg "zip" = none) (g_len : mg "len" = none) (m_TooGreat : mg "TooGreat" = some (.ref (He.ga K "TooGreat"))) (m_BadBonds : mg "BadBonds" = some (.ref (He.ga K "BadBonds"))) (m_BadWord : mg "BadWord" = some (.ref (He.ga K "BadWord"))) (m_BadDeed : mg "BadDeed" = some (.ref (He.ga K "BadDeed"))) (m_BadText : mg "BadText" = some (.ref (He.ga K "BadText"))) (m_BadRow : mg "BadRow" = some (.ref (He.ga K "BadRow"))) (m_BadNumber : mg "BadNumber" = some (.ref (He.ga K "BadNumber"))) (m_BadChoice : mg "BadChoice" = some (.ref (He.ga K "BadChoice"))) (m_Unlike : mg "Unlike" = some (.ref (He.ga K "Unlike"))) (m_Endless : mg "Endless" = some (.ref (He.ga K "Endless"))) (m_NothingLeft : mg "NothingLeft" = some (.ref (He.ga K "NothingLeft"))) (g : Addr) (cdv : Value) (A : Around) (ou : List Env) (s : Shared) (H : Hp) (c : C) (hr : Room 0 (A.deeper (PyProof.Rows.envOfC "_law_heard" heardScope s.heap.objs.size g cdv))) (hc : c.K = K) (ho : c.ow = [4]) :
    PSs (cxOf C8.CX0 P w K mg base HN "_law_heard" heardScope g cdv A ou s H C8.E0).nox ((defBody s__law_heard).drop 3) (LS c (t__law_heard K)) :=
  (psd_cons (psd_if (pt_tru hc (pd_isiE hc g_isinstance m_TooGreat (pd_var 2))) (psd_one (psd_ret (pd_if (ptd_not (pt_tru hc (pd_isiT hc g_isinstance g_ValueError bootVE (pd_var 2)))) (pd_tup (pad_cons pd_str (pad_cons (pd_xf hc (pd_var 2)) pad_nil))) pd_str))) psd_nil)
  (psd_cons (psd_setO 4 (by rw [ho]; rfl) HNnd (pdf_lst (pad_cons (pd_isiE hc g_isinstance m_BadBonds (pd_var 2)) (pad_cons (pd_isiE hc g_isinstance m_BadWord (pd_var 2)) (pad_cons (pd_isiE hc g_isinstance m_BadDeed (pd_var 2)) pad_nil)))))
  (psd_cons (psd_setO 4 (by rw [ho]; rfl) HNnd (pdf_plN 4 (pd_fr (pdf_lst (pad_cons (pd_isiE hc g_isinstance m_BadText (pd_var 2)) (pad_cons (pd_isiE hc g_isinstance m_BadRow (pd_var 2)) (pad_cons (pd_isiE hc g_isinstance m_BadNumber (pd_var 2)) pad_nil)))))))
  (psd_cons (psd_setO 4 (by rw [ho]; rfl) HNnd (pdf_plN 4 (pd_fr (pdf_lst (pad_cons (pd_isiE hc g_isinstance m_BadChoice (pd_var 2)) (pad_cons (pd_isiE hc g_isinstance m_Unlike (pd_var 2)) (pad_cons (pd_isiE hc g_isinstance m_Endless (pd_var 2)) pad_nil)))))))
  (psd_cons (psd_app 4 (pd_isiE hc g_isinstance m_NothingLeft (pd_var 2)))
  (psd_cons (psd_set 5 HNnd (pd_fr (pdf_lst (pad_cons pd_str (pad_cons pd_str (pad_cons pd_str (pad_cons pd_str (pad_cons pd_str (pad_cons pd_str (pad_cons pd_str (pad_cons pd_str (pad_cons pd_str (pad_cons pd_str pad_nil)))))))))))))
  (psd_cons (psd_frz (psd_setLc 6 (own := [("word", 7), ("is_so", 8)]) rfl HNnd (pid_zipL hc g_zip (pd_var 5) (pd_var 4)) (blkOk_by (N := ["call", "told", "error", "e", "kinds", "words", "found", "word", "is_so"]) (sc := heardScope) (by decide +kernel)) (fun sB HB CB clB fpB => (pgd_tup hc rfl (pgds_cons (pgd_name 7 HNnd) (pgds_cons (pgd_name 8 HNnd) pgds_nil)))) (fun sB HB CB clB fpB => (ptsd_one (pt_tru hc (pd_var 8)))) (fun sB HB CB clB fpB => (pd_var 7))))
  (psd_cons (psd_if (PW.pt (pwd_or (ptd_cmp (OpR.or op_ne (op_neD hr.units)) (fit_ne hc) (pd_lenN hc g_len 6) pd_int) (pwd_or1 (ptd_not (pt_tru hc (pd_isiT hc g_isinstance g_ValueError bootVE (pd_var 2))))))) (psd_one (psd_ret pd_str)) psd_nil)
  (psd_cons (psd_if (ptd_cmp op_in_seq (fit_in hc) (pd_ixN hc 6 pd_int) (pd_tup (pad_cons pd_str (pad_cons pd_str (pad_cons pd_str pad_nil))))) (psd_one (psd_ret (pd_ixN hc 6 pd_int))) psd_nil)
  (psd_one (psd_ret (pd_tup (pad_cons (pd_ixN hc 6 pd_int) (pad_cons (pd_if (ptd_cmp op_in_seq (fit_in hc) (pd_ixN hc 6 pd_int) (pd_tup (pad_cons pd_str (pad_cons pd_str (pad_cons pd_str pad_nil))))) (pd_xf hc (pd_var 2)) (pd_xf hc (pd_var 2))) pad_nil))))))))))))))
theorem sc_fewer_first : FnScope ["tuples"] ["tuples"] (defScope s_fewer_first) := ⟨rfl, rfl, rfl, by decide +kernel, rfl, by decide +kernel, by decide +kernel⟩
theorem w_fewer_first {P : Program} {w : World} {K : PySem.W.Frag} {mg : PySem.Str → Option Value} {base : Heap} {BC : Addr} {T : List (Addr × PySem.Str)} (g_sorted : mg "sorted" = none) (g_len : mg "len" = none) (f : Addr) (cdv : Value) (A : Around) (outer : List Env) (s : Shared) (H : Hp) (E : XK) {c : C} (hc : c.K = K) {cc Pt : Addr} (fr : LwC c T) (it : InT T Pt lamQ_fewer_first) (ho : c.ow = []) (TB : LamX.TabB base mg cc Pt) (hcd : cdv = .ref cc)
    (hr : Room 3 (A.deeper (PyProof.Rows.envOfC "fewer_first" (defScope s_fewer_first) s.heap.objs.size f cdv))) :
    PSs (cxOf CX0 P w K mg base ["tuples"] "fewer_first" (defScope s_fewer_first) f cdv A outer s H E).nox (defBody s_fewer_first) (LS c (t_fewer_first BC K)) :=
  (show PSs (cxOf CX0 P w K mg base ["tuples"] "fewer_first" (defScope s_fewer_first) f cdv A outer s H E).nox (defBody s_fewer_first) (LS c (tA_fewer_first BC K)) from (psd_one (psd_ret (pd_fr (pdf_kf hc fr it TB hcd hr (by decide) g_sorted g_len (pd_var 0))))))
abbrev s_choices_of : Stmt := top 35
theorem sc_choices_of : FnScope ["bonds", "choices", "letter", "choice"] ["bonds"] (defScope s_choices_of) := ⟨rfl, rfl, rfl, by decide +kernel, rfl, by decide +kernel, by decide +kernel⟩
theorem w_choices_of {P : Program} {w : World} {K : PySem.W.Frag} {mg : PySem.Str → Option Value} {base : Heap} {BC : Addr} {T : List (Addr × PySem.Str)} (g_range : mg "range" = none) (g_len : mg "len" = none) (g_tuple : mg "tuple" = none) (c_fewer_first : CalT0 P w K mg base 4 "fewer_first" T sp_fewer_first) (c_len_Bonds : LenD P w K mg base 1 BC (sp_len_Bonds BC)) (f : Addr) (cdv : Value) (A : Around) (outer : List Env) (s : Shared) (H : Hp) (E : XK) {c : C} (hc : c.K = K) {cc : Addr} (fr : LwC c T) (ho : c.ow = []) (hcd : cdv = .ref cc)
    (hr : Room 4 (A.deeper (PyProof.Rows.envOfC "choices_of" (defScope s_choices_of) s.heap.objs.size f cdv))) :
    PSs (cxOf CX0 P w K mg base ["bonds", "choices", "letter", "choice"] "choices_of" (defScope s_choices_of) f cdv A outer s H E).nox (defBody s_choices_of) (LS c (t_choices_of BC K)) :=
  (show PSs (cxOf CX0 P w K mg base ["bonds", "choices", "letter", "choice"] "choices_of" (defScope s_choices_of) f cdv A outer s H E).nox (defBody s_choices_of) (LS c (tA_choices_of BC K)) from (psd_cons (psd_set 1 sc_choices_of.nd (pd_fr (pdf_lst (pad_cons (pd_tup pad_nil) pad_nil))))
  (psd_cons (psd_for PassesOwn.never rfl (pid_r2 g_range pd_int (pd_add hc (pd_lenO hc g_len c_len_Bonds hr (by decide) (pd_var 0)) pd_int)) (pgd_name 2 sc_choices_of.nd) (psd_one (psd_set 1 sc_choices_of.nd (pd_add hc (pd_var 1) (pd_fr (pdf_lc (own := [("choice", 3)]) rfl sc_choices_of.nd (pid_list hc (pd_var 1)) (blkOk_by (N := ["bonds", "choices", "letter", "choice"]) (sc := defScope s_choices_of) (by decide +kernel)) (fun sB HB CB clB fpB => (pgd_name 3 sc_choices_of.nd)) (fun sB HB CB clB fpB => pts_none) (fun sB HB CB clB fpB => (pd_tup (pad_star hc (pd_var 3) (pad_cons (pd_var 2) pad_nil))))))))))
  (psd_one (psd_ret (pd_tupOf hc g_tuple (pd_callT0 hc fr c_fewer_first hr (by decide) (pad_cons (pd_var 1) pad_nil))))))))
abbrev s_counts : Stmt := top 46
theorem sc_counts : FnScope ["bonds", "many", "found", "choice"] ["bonds", "many"] (defScope s_counts) := ⟨rfl, rfl, rfl, by decide +kernel, rfl, by decide +kernel, by decide +kernel⟩
theorem w_counts {P : Program} {w : World} {K : PySem.W.Frag} {mg : PySem.Str → Option Value} {base : Heap} {BC : Addr} {T : List (Addr × PySem.Str)} (g_tuple : mg "tuple" = none) (g_MOST_WORD : ∃ t, mg "MOST_WORD" = some (.int (60) t)) (c_one_divided : CalD P w K mg base 2 "one_divided" false sp_one_divided) (c_longest_within : CalD P w K mg base 4 "longest_within" false (sp_longest_within BC)) (c_choices_of : CalT0 P w K mg base 5 "choices_of" T (sp_choices_of BC)) (c_inverse : CalD P w K mg base 1 "inverse" false sp_inverse) (c_all_letters : CalD P w K mg base 3 "all_letters" false (sp_all_letters BC)) (c_check_number : CalD P w K mg base 2 "check_number" false sp_check_number) (f : Addr) (cdv : Value) (A : Around) (outer : List Env) (s : Shared) (H : Hp) (E : XK) {c : C} (hc : c.K = K) {cc : Addr} (fr : LwC c T) (ho : c.ow = []) (hcd : cdv = .ref cc)
    (hr : Room 5 (A.deeper (PyProof.Rows.envOfC "counts" (defScope s_counts) s.heap.objs.size f cdv))) :
    PSs (cxOf CX0 P w K mg base ["bonds", "many", "found", "choice"] "counts" (defScope s_counts) f cdv A outer s H E).nox (defBody s_counts) (LS c (t_counts BC K)) :=
  (show PSs (cxOf CX0 P w K mg base ["bonds", "many", "found", "choice"] "counts" (defScope s_counts) f cdv A outer s H E).nox (defBody s_counts) (LS c (tA_counts BC K)) from (psd_cons (psd_expr (pd_call hc c_check_number hr (by decide) (pad_cons (pd_var 1) (pad_cons (pd_globE g_MOST_WORD) pad_nil))))
  (psd_dvS0 2 sc_counts.nd
  (pss_dvc (ps_dvfor PassesOwn.never rfl (pid_tup hc (pd_callT0 hc fr c_choices_of hr (by decide) (pad_cons (pd_var 0) pad_nil))) (pgd_name 3 sc_counts.nd) (by decide) (pss_dv1 (ps_dvput hr hc (pe_dvfrz (pd_call hc c_one_divided hr (by decide) (pad_cons (pd_var 3) (pad_cons (pd_call hc c_longest_within hr (by decide) (pad_cons (pd_var 0) (pad_cons (pd_var 3) pad_nil))) (pad_cons (pd_var 2) (pad_cons (pd_var 1) pad_nil)))))) (pd_var 3))))
  (pss_dv1 (ps_dvretF (pd_tupOf hc g_tuple (pd_call hc c_inverse hr (by decide) (pad_cons (pd_ixK hr hc (pd_var 2) (pd_call hc c_all_letters hr (by decide) (pad_cons (pd_var 0) pad_nil))) pad_nil)))))))))
abbrev s_size : Stmt := top 47
theorem sc_size : FnScope ["bonds"] ["bonds"] (defScope s_size) := ⟨rfl, rfl, rfl, by decide +kernel, rfl, by decide +kernel, by decide +kernel⟩
theorem w_size {P : Program} {w : World} {K : PySem.W.Frag} {mg : PySem.Str → Option Value} {base : Heap} {BC : Addr} {T : List (Addr × PySem.Str)} (g_sum : mg "sum" = none) (g_MOST_WORD : ∃ t, mg "MOST_WORD" = some (.int (60) t)) (c_is_finite : CalD P w K mg base 5 "is_finite" false (sp_is_finite BC)) (c_counts : CalT0 P w K mg base 6 "counts" T (sp_counts BC)) (f : Addr) (cdv : Value) (A : Around) (outer : List Env) (s : Shared) (H : Hp) (E : XK) {c : C} (hc : c.K = K) {cc : Addr} (fr : LwC c T) (ho : c.ow = []) (hcd : cdv = .ref cc)
    (hr : Room 6 (A.deeper (PyProof.Rows.envOfC "size" (defScope s_size) s.heap.objs.size f cdv))) :
    PSs (cxOf CX0 P w K mg base ["bonds"] "size" (defScope s_size) f cdv A outer s H E).nox (defBody s_size) (LS c (t_size BC K)) :=
  (show PSs (cxOf CX0 P w K mg base ["bonds"] "size" (defScope s_size) f cdv A outer s H E).nox (defBody s_size) (LS c (tA_size BC K)) from (psd_cons (psd_if (ptd_not (pt_tru hc (pd_call hc c_is_finite hr (by decide) (pad_cons (pd_var 0) pad_nil)))) (psd_one psd_never) psd_nil)
  (psd_one (psd_ret (pd_sumT hc g_sum rfl (pd_callT0 hc fr c_counts hr (by decide) (pad_cons (pd_var 0) (pad_cons (pd_globE g_MOST_WORD) pad_nil))))))))
theorem wXT_size {P : Program} {w : World} {K : PySem.W.Frag} {mg : PySem.Str → Option Value} {base : Heap} {BC : Addr} {T : List (Addr × PySem.Str)} (g_sum : mg "sum" = none) (g_MOST_WORD : ∃ t, mg "MOST_WORD" = some (.int (60) t)) (c_is_finite : CalD P w K mg base 5 "is_finite" false (sp_is_finite BC)) (c_counts : CalT0 P w K mg base 6 "counts" T (sp_counts BC)) (u_Endless : Un0 K mg "Endless") (f : Addr) (cdv : Value) (A : Around) (outer : List Env) (s : Shared) (H : Hp) (E : XK) (Ex : EX) {c : C} (hc : c.K = K) (fr : LwC c T) (ho : c.ow = [])
    (hr : Room 6 (A.deeper (PyProof.Rows.envOfC "size" (defScope s_size) s.heap.objs.size f cdv))) (tk : Takes (cxOf (L2.CX P w) P w K mg base ["bonds"] "size" (defScope s_size) f cdv A outer s H E) (WL c Ex)) :
    PSs (cxOf (L2.CX P w) P w K mg base ["bonds"] "size" (defScope s_size) f cdv A outer s H E) (defBody s_size) (LS c (tX_size BC Ex)) :=
  (psd_cons (psd_if (ptd_not (pt_tru hc (pd_call hc c_is_finite hr (by decide) (pad_cons (pd_var 0) pad_nil)))) (psd_one (psd_raise0 hc rfl tk u_Endless)) psd_nil)
  (psd_one (psd_ret (pd_sumT hc g_sum rfl (pd_callT0 hc fr c_counts hr (by decide) (pad_cons (pd_var 0) (pad_cons (pd_globE g_MOST_WORD) pad_nil)))))))
theorem sc_law : FnScope ["script", "m", "turn", "table", "words", "letters", "rows", "fork", "four", "due", "told"] ["script"] (defScope s_law) := ⟨rfl, rfl, rfl, by decide +kernel, rfl, by decide +kernel, by decide +kernel⟩
def exLSs (K : PySem.W.Frag) (T : List (Addr × PySem.Str)) (t : DS) : TS := fun D σ H => ∃ c, c.K = K ∧ LwC c T ∧ c.ow = [] ∧ LS c t D σ H
theorem PSs.exL {X : Cx} {st : List Stmt} {K : PySem.W.Frag} {T : List (Addr × PySem.Str)} {t : DS} (h : ∀ c, c.K = K → LwC c T → c.ow = [] → PSs X st (LS c t)) : PSs X st (exLSs K T t) := ⟨fun pins s σ H Q I ⟨c, hc, fr, ho, q⟩ => (h c hc fr ho).run pins s σ H Q I q⟩
def spLaw (K : PySem.W.Frag) (T : List (Addr × PySem.Str)) : Sp := fun vs H Q _ => ∃ (a : Addr) (ns : List Int), vs = [.ref a] ∧ SqL K H a (ns.map V.int) ∧ ns.length ≤ 63 ∧ (∀ p ∈ T, H p.1 = some (.tbl #[])) ∧ ∀ H', Q (.bl true) H'
section
variable {P : Program} {w : World} {K : PySem.W.Frag} {mg : PySem.Str → Option Value} {base : Heap} {BC NC : Addr} {T : List (Addr × PySem.Str)}
theorem w_law (g_isinstance : mg "isinstance" = none) (g_list : mg "list" = none) (g_range : mg "range" = none) (g_sum : mg "sum" = none) (c__law_draw : CalD P w K mg base 2 "_law_draw" true sp__law_draw) (c__law_like : CalG P w K mg base 1 "_law_like" false sp__law_likeE) (c_size : CalT0 P w K mg base 7 "size" T (sp_size BC)) (c_Bonds : MakD P w K mg base 4 "Bonds" BC (sp_Bonds BC)) (c__law_shuffled : CalD P w K mg base 3 "_law_shuffled" true sp__law_shuffled) (c__law_table : CalD P w K mg base 3 "_law_table" true sp__law_tableS) (c_is_finite : CalD P w K mg base 5 "is_finite" false (sp_is_finite BC)) (c__law_finite : CalD P w K mg base 4 "_law_finite" true sp__law_finite) (c_counts : CalT0 P w K mg base 6 "counts" T (sp_counts BC)) (c__law_line : CalD P w K mg base 5 "_law_line" false sp__law_line) (cXT_size : CalXT P w K mg base 7 "size" T (spX_size BC)) (cL : CalL P w K mg base 1) (hd : HdB P w K mg base NHD sp__law_heard)  (f : Addr) (cdv : Value) (A : Around) (outer : List Env) (s : Shared) (H : Hp) (E : XK) {c : C} (hc : c.K = K) {cc Pt : Addr} (fr : LwC c T) (it : InT T Pt lamQ) (ho : c.ow = []) (TB : LamX.TabB base mg cc Pt) (hcd : cdv = .ref cc)
    (gu : (A.deeper (PyProof.Rows.envOfC "law" (defScope s_law) s.heap.objs.size f cdv)).guards = some []) (hr : Room 9 (A.deeper (PyProof.Rows.envOfC "law" (defScope s_law) s.heap.objs.size f cdv))) :
    PSs (cxOf CX0 P w K mg base ["script", "m", "turn", "table", "words", "letters", "rows", "fork", "four", "due", "told"] "law" (defScope s_law) f cdv A outer s H E).nox ((defBody s_law).drop 1) (LS c (t_law55 BC K)) :=
  (psd_cons (psd_for PassesOwn.never rfl (pid_r1 g_range pd_int) (pgd_name 2 sc_law.nd) (psd_cons (psd_asg (pd_callM hc c__law_finite hr (by decide) 1 (pad_cons pd_int pad_nil)) (pgd_lst hc rfl (pgds_cons (pgd_name 3 sc_law.nd) (pgds_cons (pgd_name 4 sc_law.nd) (pgds_cons (pgd_name 5 sc_law.nd) pgds_nil)))))
  (psd_one (psd_if (PW.pt (pwd_or (ptd_not (pt_tru hc (pd_callG hc c__law_like gu hr (by decide) (pad_cons (pd_callT0 hc fr c_size hr (by decide) (pad_cons (pd_make hc c_Bonds hr (by decide) (pad_cons (pd_var 3) pad_nil)) pad_nil)) (pad_cons (pd_var 4) pad_nil))))) (pwd_or1 (ptd_cmp (OpR.or op_ne (op_neD hr.units)) (fit_ne hc) (pd_sumT hc g_sum rfl (pd_callT0 hc fr c_counts hr (by decide) (pad_cons (pd_make hc c_Bonds hr (by decide) (pad_cons (pd_var 3) pad_nil)) (pad_cons (pd_var 5) pad_nil)))) (pd_var 4))))) (psd_one (psd_ret pd_bl)) psd_nil))))
  (psd_cons (psd_set 6 sc_law.nd (pd_fr (pdf_lst (pad_cons (pd_tup (pad_cons (pd_call hc c__law_line hr (by decide) (pad_cons pd_int (pad_cons pd_int pad_nil))) (pad_cons pd_int pad_nil))) (pad_cons (pd_tup (pad_cons (pd_call hc c__law_line hr (by decide) (pad_cons pd_int (pad_cons pd_int pad_nil))) (pad_cons pd_int pad_nil))) (pad_cons (pd_tup (pad_cons (pd_call hc c__law_line hr (by decide) (pad_cons pd_int (pad_cons pd_int pad_nil))) (pad_cons pd_int pad_nil))) (pad_cons (pd_tup (pad_cons (pd_call hc c__law_line hr (by decide) (pad_cons pd_int (pad_cons pd_int pad_nil))) (pad_cons pd_int pad_nil))) pad_nil)))))))
  (psd_fork 7 sc_law.nd hc rfl cL hr (by decide) (pa_cons pe_int (pa_cons pe_int pa_nil)) (pa_cons pe_int (pa_cons pe_int (pa_cons pe_int (pa_cons pe_int pa_nil)))) (pgs_cons (pg_sub (pe_ix ix_list (pv 7) pe_int (fun _ _ => rfl)) pe_int set_list) (pgs_cons (pg_sub (pe_ix ix_list (pv 7) pe_int (fun _ _ => rfl)) pe_int set_list) (pgs_cons (pg_sub (pe_ix ix_list (pv 7) pe_int (fun _ _ => rfl)) pe_int set_list) (pgs_cons (pg_sub (pe_ix ix_list (pv 7) pe_int (fun _ _ => rfl)) pe_int set_list) pgs_nil)))) (psd_cons (psd_set 8 sc_law.nd (pd_fr (pdf_lst (pad_cons (pd_fr (pdf_lst (pad_cons pd_int (pad_cons pd_int (pad_cons pd_int (pad_cons pd_int pad_nil)))))) (pad_cons (pd_fr (pdf_lst (pad_cons pd_int (pad_cons pd_int (pad_cons pd_int (pad_cons pd_int pad_nil)))))) (pad_cons (pd_fr (pdf_lst (pad_cons pd_int (pad_cons pd_int (pad_cons pd_int (pad_cons pd_int pad_nil)))))) (pad_cons (pd_fr (pdf_lst (pad_cons pd_int (pad_cons pd_int (pad_cons pd_int (pad_cons pd_int pad_nil)))))) pad_nil)))))))
  (psd_cons (psd_set 6 sc_law.nd (pd_add hc (pd_var 6) (pd_fr (pdf_lst (pad_cons (pd_tup (pad_cons (pd_var 7) (pad_cons pd_int pad_nil))) (pad_cons (pd_tup (pad_cons (pd_var 8) (pad_cons pd_int pad_nil))) pad_nil))))))
  (psd_cons (psd_asg (pd_ixN hc 6 (pd_callM hc c__law_draw hr (by decide) 1 (pad_cons pd_int pad_nil))) (pgd_tup hc rfl (pgds_cons (pgd_name 3 sc_law.nd) (pgds_cons (pgd_name 9 sc_law.nd) pgds_nil))))
  (psd_cons (psd_if (ptd_not (pt_tru hc (pd_callG hc c__law_like gu hr (by decide) (pad_cons (pd_callT0 hc fr c_size hr (by decide) (pad_cons (pd_make hc c_Bonds hr (by decide) (pad_cons (pd_callM hc c__law_shuffled hr (by decide) 1 (pad_cons (pd_var 3) pad_nil)) pad_nil)) pad_nil)) (pad_cons (pd_var 9) pad_nil))))) (psd_one (psd_ret pd_bl)) psd_nil)
  (psd_cons (psd_set 3 sc_law.nd (pd_callM hc c__law_table hr (by decide) 1 (pad_cons (pd_add hc pd_int (pd_callM hc c__law_draw hr (by decide) 1 (pad_cons pd_int pad_nil))) (pad_cons (pd_fr (pdf_lst (pad_cons pd_int (pad_cons pd_int (pad_cons pd_int (pad_cons pd_int (pad_cons pd_int (pad_cons pd_int pad_nil)))))))) pad_nil))))
  (psd_cons (psd_set 10 sc_law.nd (pd_heardT (k := 7) hc fr it hd TB hcd hr (by decide) (LamX.lamS_by (sc := defScope s_law) (by decide +kernel)) (fun A1 o1 s1 H1 E1 f1 c1 c2 Ex rm ek fr2 tk => (pd_callXT (X := LamX.lamCx (cxOf CX0 P w K mg base ["script", "m", "turn", "table", "words", "letters", "rows", "fork", "four", "due", "told"] "law" (defScope s_law) f cdv A outer s H E).nox A1 o1 s1 H1 E1 _ f1 c1) ek fr2 tk cXT_size rm (by decide) (pad_cons (pd_make (X := LamX.lamCx (cxOf CX0 P w K mg base ["script", "m", "turn", "table", "words", "letters", "rows", "fork", "four", "due", "told"] "law" (defScope s_law) f cdv A outer s H E).nox A1 o1 s1 H1 E1 _ f1 c1) ek c_Bonds rm (by decide) (pad_cons (pd_var 3) pad_nil)) pad_nil)))))
  (psd_cons (psd_if (PW.pt (pwd_or (ptd_cmp (OpR.or op_ne (op_neD hr.units)) (fit_ne hc) (pd_call hc c_is_finite hr (by decide) (pad_cons (pd_make hc c_Bonds hr (by decide) (pad_cons (pd_var 3) pad_nil)) pad_nil)) (pd_isi hc g_isinstance g_list PyProof.Rows.boot_list (pd_var 10))) (pwd_or1 (PW.pt (pwd_and (ptd_not (pt_tru hc (pd_isi hc g_isinstance g_list PyProof.Rows.boot_list (pd_var 10)))) (pwd_and1 (ptd_cmp (OpR.or op_ne (op_neD hr.units)) (fit_ne hc) (pd_var 10) pd_str))))))) (psd_one (psd_ret pd_bl)) psd_nil)
  (psd_one (psd_ret (pd_andV (pd_cmp (OpR.or op_eq (op_eqD hr.units)) (fit_eq hc) (pd_callT0 hc fr c_size hr (by decide) (pad_cons (pd_make hc c_Bonds hr (by decide) (pad_cons (pd_fr (pdf_lst (pad_cons (pd_fr (pdf_lst (pad_cons pd_int pad_nil))) pad_nil))) pad_nil)) pad_nil)) pd_int) (pd_one (pd_cmp (OpR.or op_eq (op_eqD hr.units)) (fit_eq hc) (pd_heardT (k := 7) hc fr it hd TB hcd hr (by decide) (LamX.lamS_by (sc := defScope s_law) (by decide +kernel)) (fun A1 o1 s1 H1 E1 f1 c1 c2 Ex rm ek fr2 tk => (pd_callXT (X := LamX.lamCx (cxOf CX0 P w K mg base ["script", "m", "turn", "table", "words", "letters", "rows", "fork", "four", "due", "told"] "law" (defScope s_law) f cdv A outer s H E).nox A1 o1 s1 H1 E1 _ f1 c1) ek fr2 tk cXT_size rm (by decide) (pad_cons (pd_make (X := LamX.lamCx (cxOf CX0 P w K mg base ["script", "m", "turn", "table", "words", "letters", "rows", "fork", "four", "due", "told"] "law" (defScope s_law) f cdv A outer s H E).nox A1 o1 s1 H1 E1 _ f1 c1) ek c_Bonds rm (by decide) (pad_cons (pd_fr (pdf_lst (pad_cons (pd_fr (pdf_lst (pad_cons pd_int (pad_cons pd_int pad_nil)))) (pad_cons (pd_fr (pdf_lst (pad_cons pd_int (pad_cons pd_int pad_nil)))) pad_nil)))) pad_nil)) pad_nil)))) pd_str)))))))))))))))
theorem ok_law (g_isinstance : mg "isinstance" = none) (g_list : mg "list" = none) (g_range : mg "range" = none) (g_sum : mg "sum" = none) (c__law_draw : CalD P w K mg base 2 "_law_draw" true sp__law_draw) (c__law_like : CalG P w K mg base 1 "_law_like" false sp__law_likeE) (c_size : CalT0 P w K mg base 7 "size" T (sp_size BC)) (c_Bonds : MakD P w K mg base 4 "Bonds" BC (sp_Bonds BC)) (c__law_shuffled : CalD P w K mg base 3 "_law_shuffled" true sp__law_shuffled) (c__law_table : CalD P w K mg base 3 "_law_table" true sp__law_tableS) (c_is_finite : CalD P w K mg base 5 "is_finite" false (sp_is_finite BC)) (c__law_finite : CalD P w K mg base 4 "_law_finite" true sp__law_finite) (c_counts : CalT0 P w K mg base 6 "counts" T (sp_counts BC)) (c__law_line : CalD P w K mg base 5 "_law_line" false sp__law_line) (cXT_size : CalXT P w K mg base 7 "size" T (spX_size BC)) (cL : CalL P w K mg base 1) (hd : HdB P w K mg base NHD sp__law_heard)  {fb : Addr} {fd fdb : FuncData} (F : Fun K "law" "law" s_law (He.fAd K ("law", none)) fd) (Gb : FnOk P w K mg base CX0 2 fb fdb ["script"] (T7.spBegun K)) (hmb : mg "_law_begun" = some (.ref fb)) (kpb : PySem.W.keepIn K (.ref fb) = true) (bb : Binds K fdb ["script"] []) {Pt : Addr} (it : InT T Pt lamQ) (TB : LamX.TabB base mg (He.codeOf K ("law", none)) Pt) :
    L2G.FnG P w K mg base 10 (He.fAd K ("law", none)) fd ["script"] (spLaw K T) := by
  refine L2G.okGT F sc_law (fun vs H Q E h => ?_) (fun cdv A outer s H vs Q E hcd hr gu h => ?_)
  · obtain ⟨a, ns, rfl, _⟩ := h
    rfl
  · obtain ⟨a, ns, rfl, ha, hl, hpt, fin⟩ := h
    refine ⟨_, pss_cons (ps_set (i := 1) sc_law.nd rfl (by first | exact .inl rfl | exact .inr rfl) (pe_call Gb (hr.mono (by decide)) rfl hmb kpb bb .nil pass0 (pa_cons (pv 0) pa_nil))) (PSs.exL (K := K) (T := T) (t := t_law55 BC K) fun c hc fr ho => w_law g_isinstance g_list g_range g_sum c__law_draw c__law_like c_size c_Bonds c__law_shuffled c__law_table c_is_finite c__law_finite c_counts c__law_line cXT_size cL hd _ cdv A outer s H E hc fr it ho TB hcd gu hr), ?_⟩
    refine ⟨_, rfl, a, ns, rfl, ha, hl, fun m H1 cs gs sb hm => ?_⟩
    have tb1 : LamX.Tabs T H1 := sb.tabs _ fun p hp => LamX.TabS.nil (hpt p hp)
    refine ⟨⟨K, some { m with T := T, kd := none }, [], fun _ => none, []⟩, rfl, ⟨⟨_, rfl, rfl, rfl⟩, fun _ _ z => nomatch z⟩, rfl, ⟨[], [.no, .mst, .no, .no, .no, .no, .no, .no, .no, .no, .no], 0⟩, _, Rep.root (rep_of (X0 := []) (M := some { m with T := T, kd := none }) (fun _ h => (nomatch h)) (fun _ h => (nomatch h)) (fun _ h => (nomatch h)) rfl ⟨cs, gs, 0, ⟨hm.hm, hm.hc, hm.hg, hm.lc, hm.bc, hm.lg, hm.bg⟩, Nat.le_refl _, tb1⟩ (fun i x e => ?_) (fun i p ds e => ?_)) rfl, r_law55 BC K ⟨fun _ => False, fun d _ => d = .bl true, fun _ => False, fun _ => False⟩ (fun _ => rfl), ?_⟩
    · match i, e with
      | 0, e => cases e; trivial
      | 1, e => cases e; exact ⟨_, ⟨rfl, rfl⟩, rfl⟩
      | 2, e => cases e; trivial
      | 3, e => cases e; trivial
      | 4, e => cases e; trivial
      | 5, e => cases e; trivial
      | 6, e => cases e; trivial
      | 7, e => cases e; trivial
      | 8, e => cases e; trivial
      | 9, e => cases e; trivial
      | 10, e => cases e; trivial
    · have mem := List.mem_of_getElem? e
      simp at mem
    · exact ⟨fun _ _ _ _ _ q => q.elim, fun _ _ _ _ _ q => q.elim, fun _ _ _ _ _ q => q.elim, fun d k v H' fi e r => by
        subst r
        cases e
        exact fin H'⟩
end
end BW
namespace BW
open PySem L2 DL
mutual
def D.noIns : D → Bool
  | .lst xs => noInsA xs
  | .tup xs => noInsA xs
  | .ins _ _ _ => false
  | .exc _ _ _ => false
  | .dct _ _ => false
  | .non => true
  | .bl _ => true
  | .int _ => true
  | .str _ => true
  | .dic => true
def noInsA : List D → Bool
  | [] => true
  | d :: r => D.noIns d && noInsA r
end
theorem sqT_off {K : PySem.W.Frag} {A : Hp} {x C dx a : Addr} {fs : List (PySem.Str × V)} {vs : List V} (hx : A x = some (.ins C dx fs)) (h : SqT K A a vs) : SqT K (wo A [x]) a vs := by
  rcases h with h | h
  · refine .inl ?_
    rcases h with h | ⟨o, h⟩
    · exact .inl (wo_of (fun z => by simp at z; subst z; rw [hx] at h; cases h) h)
    · exact .inr ⟨o, wo_of (fun z => by simp at z; subst z; rw [hx] at h; cases h) h⟩
  · exact .inr h
mutual
theorem rl_off {K : PySem.W.Frag} {A : Hp} {x C dx : Addr} {fs : List (PySem.Str × V)} (hx : A x = some (.ins C dx fs)) : ∀ {v : V} {d : D}, Rl K A v d → D.noIns d = true → Rl K (wo A [x]) v d
  | _, _, .non, _ => .non
  | _, _, .bl b, _ => .bl b
  | _, _, .int i, _ => .int i
  | _, _, .str s, _ => .str s
  | _, _, .lst h r, n => .lst (wo_of (fun z => by simp at z; subst z; rw [hx] at h; cases h) h) (rlA_off hx r n)
  | _, _, .tup h r, n => .tup (sqT_off hx h) (rlA_off hx r n)
  | _, _, .dic h, _ => .dic (wo_of (fun z => by simp at z; subst z; rw [hx] at h; cases h) h)
  | _, _, .ins _ _ _, n => by cases n
  | _, _, .exc _ _ _ _, n => by cases n
  | _, _, .dct _ _ _ _ _, n => by cases n
theorem rlA_off {K : PySem.W.Frag} {A : Hp} {x C dx : Addr} {fs : List (PySem.Str × V)} (hx : A x = some (.ins C dx fs)) : ∀ {vs : List V} {ds : List D}, RlA K A vs ds → noInsA ds = true → RlA K (wo A [x]) vs ds
  | _, _, .nil, _ => .nil
  | _, _, .cons h r, n => .cons (rl_off hx h (Bool.and_eq_true_iff.mp n).1) (rlA_off hx r (Bool.and_eq_true_iff.mp n).2)
end
theorem noIns_ints : ∀ ns : List Int, noInsA (ns.map D.int) = true
  | [] => rfl
  | _ :: r => noIns_ints r
theorem noIns_tM (T : Mat) : D.noIns (tM T) = true := by
  show noInsA (T.map tI) = true
  induction T with
  | nil => rfl
  | cons r T ih =>
    show (noInsA (r.map D.int) && noInsA (T.map tI)) = true
    rw [noIns_ints, ih]
    rfl
abbrev s_init : Stmt := memS 28 0
abbrev s_len : Stmt := memS 28 1
theorem sc_init : FnScope ["self", "rows", "row", "one"] ["self", "rows"] (defScope s_init) := ⟨rfl, rfl, rfl, by decide +kernel, rfl, by decide +kernel, by decide +kernel⟩
theorem sc_len : FnScope ["self"] ["self"] (defScope s_len) := ⟨rfl, rfl, rfl, by decide +kernel, rfl, by decide +kernel, by decide +kernel⟩
section
variable {P : Program} {w : World} {K : PySem.W.Frag} {mg : PySem.Str → Option Value} {base : Heap} {BC : Addr}
theorem ok_len {f : Addr} {fd : FuncData} (F : Fun K "__len__" "Bonds.__len__" s_len f fd) (g_len : mg "len" = none) (g_Bonds : Cls K BC) (g_Bonds_table : NoAttr K BC "table") : FnOk P w K mg base CX0 1 f fd ["self"] (spD K false (sp_len_Bonds BC)) :=
  okD F sc_len [] (fun ds k R ⟨T, h, _⟩ => by rw [h]; rfl) ⟨dRet (dLen (dFld BC "table" (dVar 0))), fun cdv A outer s H E M X0 hr => (psd_one (psd_ret (pd_len rfl g_len (pd_fld rfl g_Bonds g_Bonds_table (pd_var 0))))), fun X ds k R ⟨T, h1, h2, h3⟩ => by
    subst h1
    intro X
    refine ⟨_, rfl, _, _, tM T, rfl, rfl, _, rfl, ?_⟩
    rw [List.length_map]
    exact h3⟩
theorem ok_init {f : Addr} {fd : FuncData} (F : Fun K "__init__" "Bonds.__init__" s_init f fd) (g_tuple : mg "tuple" = none) (g_range : mg "range" = none) (g_len : mg "len" = none) (c_check_table : CalD P w K mg base 3 "check_table" false sp_check_table) (c_weights_from : CalD P w K mg base 2 "weights_from" false sp_weights_from) (g_Bonds : Cls K BC) (g_Bonds_table : NoAttr K BC "table") (g_Bonds_weights : NoAttr K BC "weights") :
    FnOk P w K mg base CX0 4 f fd ["self", "rows"] (spI K BC (sp_Bonds BC)) := by
  refine F.ok sc_init (fun vs H Q E h => ?_) (fun cdv A outer s H vs Q E hr h => ?_)
  · obtain ⟨X0, x, dx, ds, ws, R, rfl, h1, h2, h3, h4, h4t, h5, h6, ra, ⟨T, rfl, _⟩, _⟩ := h
    have := ra.len
    rw [List.length_cons, this]
    rfl
  · obtain ⟨X0, x, dx, ds, ws, R, rfl, hx, hdx, ne, xs, xt, nx, ndx, ra, ⟨T, rfl, ht, hR⟩, fin⟩ := h
    obtain ⟨v, rfl, rv⟩ : ∃ v, ws = [v] ∧ Rl K (wo H (x :: X0)) v (lM T) := by
      cases ra with
      | cons a b => cases b; exact ⟨_, rfl, a⟩
    refine ⟨_, pss_cons (ps_expr (PE.exE (K := K) (t := dCall sp_check_table (dCons (dVar 1) dNil)) fun c hc => pd_call hc c_check_table hr (by decide) (pad_cons (pd_var 1) pad_nil)))
      (pss_cons (ps_fld (pv 0) (PE.exE (K := K) (t := (dTupOf (dFr (dLc (iLst (dVar 1)) (dgN 2) dY (dTupN 2) [2])))) fun c hc => (pd_tupOf hc g_tuple (pd_fr (pdf_lc (own := [("row", 2)]) rfl sc_init.nd (pid_list hc (pd_var 1)) (blkOk_by (N := ["self", "rows", "row", "one"]) (sc := defScope s_init) (by decide +kernel)) (fun _ _ _ _ _ => (pgd_name 2 sc_init.nd)) (fun _ _ _ _ _ => pts_none) (fun _ _ _ _ _ => (pd_tupN hc g_tuple 2)))))) rfl)
      (pss_one (ps_fld (pv 0) (PE.exE (K := K) (t := (dTupOf (dFr (dLc (iR2 (dC (.int 1)) (dOp oAdd (dLenN 1) (dC (.int 1)))) (dgN 3) dY (dCall sp_weights_from (dCons (dFld BC "table" (dVar 0)) (dCons (dVar 3) dNil))) [3])))) fun c hc => (pd_tupOf hc g_tuple (pd_fr (pdf_lc (own := [("one", 3)]) rfl sc_init.nd (pid_r2 g_range pd_int (pd_add hc (pd_lenN hc g_len 1) pd_int)) (blkOk_by (N := ["self", "rows", "row", "one"]) (sc := defScope s_init) (by decide +kernel)) (fun _ _ _ _ _ => (pgd_name 3 sc_init.nd)) (fun _ _ _ _ _ => pts_none) (fun _ _ _ _ _ => (pd_call hc c_weights_from hr (by decide) (pad_cons (pd_fld hc g_Bonds g_Bonds_table (pd_var 0)) (pad_cons (pd_var 3) pad_nil)))))))) rfl))), ?_⟩
    have hT := ht.hi
    -- a state whose only data is the table
    have repT : ∀ (Y : List Addr) (G : Hp) (d0 : Sl), (∀ a ∈ Y, G a ≠ none) → (∀ a ∈ Y, ∀ ps, G a ≠ some (.tbl ps)) → SlOk ⟨K, none, Y, G, []⟩ Y G (some (some (V.ref x))) d0 → (∀ p ds, d0 ≠ .own p ds) → Rl K (wo G Y) v (lM T) → Rep ⟨K, none, Y, G, []⟩ ⟨Y, [d0, .dat (lM T), .no, .no], 0⟩ (L2.start ["self", "rows", "row", "one"] [V.ref x, v]) G := by
      intro Y G d0 hY hT0 h0 hn hv
      refine ⟨Sub.refl _, fun _ _ _ _ => rfl, fun _ h => h, fun _ _ => by simp [Ml], hY, trivial, fun i z e => ?_, fun i j p q ds es e _ _ => ?_, rfl, .refl, hT0⟩
      · match i, e with
        | 0, e => cases e; exact h0
        | 1, e => cases e; exact ⟨v, rfl, hv⟩
        | 2, e => cases e; trivial
        | 3, e => cases e; trivial
      · match i, e with
        | 0, e => cases e; exact absurd rfl (hn _ _)
        | 1, e => cases e
        | 2, e => cases e
        | 3, e => cases e
    have xs1 : ∀ a ∈ x :: X0, H a ≠ none := fun a h => by
      rcases List.mem_cons.mp h with rfl | h
      · rw [hx]; simp
      · exact xs a h
    have xt1 : ∀ a ∈ x :: X0, ∀ ps, H a ≠ some (.tbl ps) := fun a h ps => by
      rcases List.mem_cons.mp h with rfl | h
      · rw [hx]; intro e; cases e
      · exact xt a h ps
    refine ⟨⟨K, none, x :: X0, H, []⟩, rfl, ⟨x :: X0, [.no, .dat (lM T), .no, .no], 0⟩, fun _ _ => True, repT _ H .no xs1 xt1 trivial (fun _ _ z => nomatch z) rv, ?_, ?_⟩
    · exact ⟨_, rfl, T, rfl, ht, trivial⟩
    rintro _ k0 _ _ H1 r1 a1 _
    have x1 : H1 x = some (.ins BC dx []) := by rw [a1.own x List.mem_cons_self]; exact hx
    have s01 : Sub (wo H (x :: X0)) (wo H1 (x :: X0)) := a1.sub
    have o1 : ∀ a ∈ X0, H1 a = H a := fun a h => a1.own a (List.mem_cons_of_mem _ h)
    have t01 : TbK H H1 := r1.tb
    clear r1 a1
    have rv1 := rv.mono s01
    refine ⟨⟨K, none, x :: X0, H1, []⟩, rfl, ⟨x :: X0, [.no, .dat (lM T), .no, .no], 0⟩, fun d _ => d = tM T, repT _ H1 .no (fun a h => by
      rcases List.mem_cons.mp h with rfl | h
      · rw [x1]; simp
      · rw [o1 a h]; exact xs a h) (fun a h ps => by
      rcases List.mem_cons.mp h with rfl | h
      · rw [x1]; intro e; cases e
      · rw [o1 a h]; exact xt a h ps) trivial (fun _ _ z => nomatch z) rv1, ?_, ?_⟩
    · refine ⟨_, rfl, _, rfl, by rw [List.length_map]; exact Nat.le_trans hT (by decide), fun p hp => ⟨fun j acc _ => acc = (T.take j).map tI, rfl, ?_, ?_⟩⟩
      · rintro j d acc k' hd rfl _
        rw [List.getElem?_map] at hd
        obtain ⟨r, hr, rfl⟩ := Option.map_eq_some_iff.mp hd
        refine iteT ⟨_, rfl, ?_⟩
        show _ = (T.take (j + 1)).map tI
        rw [List.take_succ, hr, List.map_append]
        rfl
      · rintro acc k' rfl _
        refine ⟨_, rfl, ?_⟩
        rw [List.length_map, List.take_length]
    rintro _ k1 rfl v1 H2 r2 a2 rt
    have x2 : H2 x = some (.ins BC dx []) := by rw [a2.own x List.mem_cons_self]; exact x1
    have s12 : Sub (wo H1 (x :: X0)) (wo H2 (x :: X0)) := a2.sub
    have o2 : ∀ a ∈ X0, H2 a = H1 a := fun a h => a2.own a (List.mem_cons_of_mem _ h)
    have rt : Rl K (wo H2 (x :: X0)) v1 (tM T) := rt
    have t12 : TbK H1 H2 := r2.tb
    clear r2 a2
    refine ⟨_, rfl, x, BC, dx, [], rfl, x2, g_Bonds, g_Bonds_table, by decide, ?_⟩
    -- the first field stands
    have s23 : Sub (wo H2 (x :: X0)) (wo (upd H2 x (.ins BC dx [("table", v1)])) X0) := fun a o e => by
      obtain ⟨n, e⟩ := wo_ne e
      exact wo_of (fun z => n (List.mem_cons_of_mem _ z)) (by rw [upd_ne (fun z => n (by rw [z]; exact List.mem_cons_self))]; exact e)
    have x3 : (upd H2 x (.ins BC dx [(("table" : PySem.Str), v1)])) x = some (.ins BC dx [("table", v1)]) := upd_same
    have o3 : ∀ a ∈ X0, (upd H2 x (.ins BC dx [(("table" : PySem.Str), v1)])) a = H a := fun a h => by rw [upd_ne (fun z => nx (by rw [← z]; exact h)), o2 a h, o1 a h]
    have rt3 := rt.mono s23
    have rv3 := (rv1.mono s12).mono s23
    have hY3 : ∀ a ∈ X0, (upd H2 x (.ins BC dx [(("table" : PySem.Str), v1)])) a ≠ none := fun a h => by rw [o3 a h]; exact xs a h
    refine ⟨⟨K, none, X0, upd H2 x (.ins BC dx [("table", v1)]), []⟩, rfl, ⟨X0, [.dat (.ins BC ["table"] [tM T]), .dat (lM T), .no, .no], 0⟩, fun d _ => d = tM (wtM T), repT _ _ (.dat (.ins BC ["table"] [tM T])) hY3 (fun a h => by rw [o3 a h]; exact xt a h) ⟨_, rfl, .ins (ns := ["table"]) (vs := [v1]) (wo_of (by simpa [Ml] using nx) x3) rfl (.cons rt3 .nil)⟩ (fun _ _ z => nomatch z) rv3, ?_, ?_⟩
    · refine ⟨_, rfl, 1, _, rfl, rfl, ⟨by omega, by omega, ?_, ?_⟩, ?_⟩
      · rw [List.length_map]; omega
      · rw [List.length_map]; omega
      have en : (((T.map lI).length : Int) + 1 - 1).toNat = T.length := by rw [List.length_map]; omega
      rw [en]
      refine ⟨by rw [rngD_len]; exact Nat.le_trans hT (by decide), fun p hp => ⟨fun j acc _ => acc = (List.range j).map fun i => tI (wtr T i), rfl, ?_, ?_⟩⟩
      · rintro j d acc k' hd rfl _
        obtain ⟨hj, rfl⟩ := rngD_at hd
        refine iteT ⟨_, rfl, _, _, tM T, rfl, rfl, _, rfl, T, _, rfl, ht, by omega, by omega, ?_⟩
        have e : ix (1 + (j : Int)) = j := by unfold ix; omega
        rw [e]
        show _ = (List.range (j + 1)).map _
        rw [range_step]
      · rintro acc k' rfl _
        refine ⟨_, rfl, ?_⟩
        rw [rngD_len]
        show D.tup _ = D.tup ((wtM T).map tI)
        unfold wtM
        rw [List.map_map]
        rfl
    rintro _ k2 rfl v2 H3 r3 a3 rw2
    have s34 : Sub (wo (upd H2 x (.ins BC dx [(("table" : PySem.Str), v1)])) X0) (wo H3 X0) := a3.sub
    have o4 : ∀ a ∈ X0, H3 a = H a := fun a h => (a3.own a h).trans (o3 a h)
    have rw2 : Rl K (wo H3 X0) v2 (tM (wtM T)) := rw2
    have t34 : TbK (upd H2 x (.ins BC dx [("table", v1)])) H3 := r3.tb
    clear r3 a3
    have x4 : (wo H3 X0) x = some (.ins BC dx [("table", v1)]) := s34 x _ (wo_of nx x3)
    have rt4 := rl_off x4 (rt3.mono s34) (noIns_tM T)
    have rw4 := rl_off x4 rw2 (noIns_tM _)
    refine ⟨_, rfl, x, BC, dx, [("table", v1)], rfl, (wo_ne x4).2, g_Bonds, g_Bonds_weights, by show 1 < 1000; decide, ?_⟩
    have s45 : Sub (wo (wo H3 X0) [x]) (wo (upd H3 x (.ins BC dx [(("table" : PySem.Str), v1), ("weights", v2)])) X0) := fun a o e => by
      obtain ⟨n, e⟩ := wo_ne e
      obtain ⟨n2, e⟩ := wo_ne e
      exact wo_of n2 (by rw [upd_ne (fun z => n (by rw [z]; exact List.mem_cons_self))]; exact e)
    refine fin (bnd BC T) 0 hR (upd H3 x (.ins BC dx [(("table" : PySem.Str), v1), ("weights", v2)])) (fun a o e => ?_) (fun a h => by rw [upd_ne (fun z => nx (by rw [← z]; exact h)), o4 a h]) (t01.trans (t12.trans ((TbK.at_ x2).trans (t34.trans (TbK.at_ (wo_ne x4).2))))) ?_
    · obtain ⟨n, _⟩ := wo_ne e
      have e4 := s34 a o (s23 a o (s12 a o (s01 a o e)))
      obtain ⟨n2, e4⟩ := wo_ne e4
      exact wo_of n2 (by rw [upd_ne (fun z => n (by rw [z]; exact List.mem_cons_self))]; exact e4)
    · exact .ins (ns := ["table", "weights"]) (vs := [v1, v2]) (wo_of nx upd_same) rfl (.cons (rt4.mono s45) (.cons (rw4.mono s45) .nil))
end
end BW
namespace BW
open PySem L2 DL
section
variable {n : Nat} {fa : List He.Fa} {fn : List He.DefD} {ts : List He.Tab} {tf : List He.Defn} {ex : PySem.W.Frag → Bool} {w : World} {h : Heap}
end
theorem obsS_eq {n : Nat} {fa : List He.Fa} {fn : List He.DefD} {ts : List He.Tab} {tf : List He.Defn} {ex : PySem.W.Frag → Bool} {g : Addr → Option Obj} {s : Shared} (h : ∀ a, g a = s.heap.get? a) : obsS n fa fn ts tf ex g = (hookS n fa fn ts tf ex).obs s :=
  congrArg (obsS n fa fn ts tf ex) (funext h)
end BW
namespace BW
open PySem L2 DL
theorem toFun {K : PySem.W.Frag} {x qual : PySem.Str} {st : Stmt} {f : Addr} {fd : FuncData} (F : FunD K x qual (defArgs st) (defBody st) (defScope st) [] [] f fd) : Fun K x qual st f fd := by
  obtain ⟨oc, od, dV, kV, doc, pm, an, cdv, ct, osl, rfl, lk, hcd, hD, hK⟩ := F.ex
  rcases hD with ⟨_, rfl⟩ | ⟨e, _⟩
  · exact ⟨⟨oc, od, kV, doc, pm, an, cdv, ct, osl, rfl, lk, hcd⟩, F.kp⟩
  · exact absurd rfl e
set_option maxHeartbeats 0 in
theorem facts {P : Program} {w : World} {K : PySem.W.Frag} {h : Heap} {mg : PySem.Str → Option Value} {f0 : Addr} (X : K.In h) (G : h.Ns mainGlobals mg) (hfa : mg ("law" : PySem.Str) = some (.ref f0)) (c : He.SaysX fa fn tabL tfL exB w h K) :
    ∃ fd : FuncData, (∀ (s : Shared) (v : Value), BindsTo s fd ⟨[v], []⟩ [("script", v)]) ∧ ∀ base : Heap, K.In base → base.Ns mainGlobals mg → (∀ n ∈ tfL, LamX.TabB base mg (He.cT K n).1 (He.cT K n).2) → L2G.FnG P w K mg base 10 f0 fd ["script"] (spLaw K (TTof K lamL)) := by
  obtain ⟨fd_is_whole, D_is_whole⟩ := c.t.d.def_ 0 (d := dd "is_whole" 20) rfl
  have F_is_whole : Fun K "is_whole" "is_whole" (top 20) (He.fAd K ("is_whole", none)) fd_is_whole := toFun D_is_whole
  obtain ⟨fd_can_stand, D_can_stand⟩ := c.t.d.def_ 1 (d := dd "can_stand" 23) rfl
  have F_can_stand : Fun K "can_stand" "can_stand" (top 23) (He.fAd K ("can_stand", none)) fd_can_stand := toFun D_can_stand
  obtain ⟨fd_check_shape, D_check_shape⟩ := c.t.d.def_ 2 (d := dd "check_shape" 24) rfl
  have F_check_shape : Fun K "check_shape" "check_shape" (top 24) (He.fAd K ("check_shape", none)) fd_check_shape := toFun D_check_shape
  obtain ⟨fd_check_table, D_check_table⟩ := c.t.d.def_ 3 (d := dd "check_table" 25) rfl
  have F_check_table : Fun K "check_table" "check_table" (top 25) (He.fAd K ("check_table", none)) fd_check_table := toFun D_check_table
  obtain ⟨fd_weight_of, D_weight_of⟩ := c.t.d.def_ 4 (d := dd "weight_of" 26) rfl
  have F_weight_of : Fun K "weight_of" "weight_of" (top 26) (He.fAd K ("weight_of", none)) fd_weight_of := toFun D_weight_of
  obtain ⟨fd_weights_from, D_weights_from⟩ := c.t.d.def_ 5 (d := dd "weights_from" 27) rfl
  have F_weights_from : Fun K "weights_from" "weights_from" (top 27) (He.fAd K ("weights_from", none)) fd_weights_from := toFun D_weights_from
  obtain ⟨fd_fewer_first, D_fewer_first⟩ := c.t.d.def_ 6 (d := dd "fewer_first" 30) rfl
  have F_fewer_first : Fun K "fewer_first" "fewer_first" (top 30) (He.fAd K ("fewer_first", none)) fd_fewer_first := toFun D_fewer_first
  obtain ⟨fd_first_row, D_first_row⟩ := c.t.d.def_ 7 (d := dd "first_row" 32) rfl
  have F_first_row : Fun K "first_row" "first_row" (top 32) (He.fAd K ("first_row", none)) fd_first_row := toFun D_first_row
  obtain ⟨fd_pressed, D_pressed⟩ := c.t.d.def_ 8 (d := dd "pressed" 33) rfl
  have F_pressed : Fun K "pressed" "pressed" (top 33) (He.fAd K ("pressed", none)) fd_pressed := toFun D_pressed
  obtain ⟨fd_choices_of, D_choices_of⟩ := c.t.d.def_ 9 (d := dd "choices_of" 35) rfl
  have F_choices_of : Fun K "choices_of" "choices_of" (top 35) (He.fAd K ("choices_of", none)) fd_choices_of := toFun D_choices_of
  obtain ⟨fd_all_letters, D_all_letters⟩ := c.t.d.def_ 10 (d := dd "all_letters" 37) rfl
  have F_all_letters : Fun K "all_letters" "all_letters" (top 37) (He.fAd K ("all_letters", none)) fd_all_letters := toFun D_all_letters
  obtain ⟨fd_longest_within, D_longest_within⟩ := c.t.d.def_ 11 (d := dd "longest_within" 38) rfl
  have F_longest_within : Fun K "longest_within" "longest_within" (top 38) (He.fAd K ("longest_within", none)) fd_longest_within := toFun D_longest_within
  obtain ⟨fd_is_finite, D_is_finite⟩ := c.t.d.def_ 12 (d := dd "is_finite" 39) rfl
  have F_is_finite : Fun K "is_finite" "is_finite" (top 39) (He.fAd K ("is_finite", none)) fd_is_finite := toFun D_is_finite
  obtain ⟨fd_check_number, D_check_number⟩ := c.t.d.def_ 13 (d := dd "check_number" 41) rfl
  have F_check_number : Fun K "check_number" "check_number" (top 41) (He.fAd K ("check_number", none)) fd_check_number := toFun D_check_number
  obtain ⟨fd_sign_of, D_sign_of⟩ := c.t.d.def_ 14 (d := dd "sign_of" 42) rfl
  have F_sign_of : Fun K "sign_of" "sign_of" (top 42) (He.fAd K ("sign_of", none)) fd_sign_of := toFun D_sign_of
  obtain ⟨fd_parts_of, D_parts_of⟩ := c.t.d.def_ 15 (d := dd "parts_of" 43) rfl
  have F_parts_of : Fun K "parts_of" "parts_of" (top 43) (He.fAd K ("parts_of", none)) fd_parts_of := toFun D_parts_of
  obtain ⟨fd_one_divided, D_one_divided⟩ := c.t.d.def_ 16 (d := dd "one_divided" 44) rfl
  have F_one_divided : Fun K "one_divided" "one_divided" (top 44) (He.fAd K ("one_divided", none)) fd_one_divided := toFun D_one_divided
  obtain ⟨fd_inverse, D_inverse⟩ := c.t.d.def_ 17 (d := dd "inverse" 45) rfl
  have F_inverse : Fun K "inverse" "inverse" (top 45) (He.fAd K ("inverse", none)) fd_inverse := toFun D_inverse
  obtain ⟨fd_counts, D_counts⟩ := c.t.d.def_ 18 (d := dd "counts" 46) rfl
  have F_counts : Fun K "counts" "counts" (top 46) (He.fAd K ("counts", none)) fd_counts := toFun D_counts
  obtain ⟨fd_size, D_size⟩ := c.t.d.def_ 19 (d := dd "size" 47) rfl
  have F_size : Fun K "size" "size" (top 47) (He.fAd K ("size", none)) fd_size := toFun D_size
  obtain ⟨fd__law_mixed, D__law_mixed⟩ := c.t.d.def_ 20 (d := dd "_law_mixed" 49) rfl
  have F__law_mixed : Fun K "_law_mixed" "_law_mixed" (top 49) (He.fAd K ("_law_mixed", none)) fd__law_mixed := toFun D__law_mixed
  obtain ⟨fd__law_folded, D__law_folded⟩ := c.t.d.def_ 21 (d := dd "_law_folded" 50) rfl
  have F__law_folded : Fun K "_law_folded" "_law_folded" (top 50) (He.fAd K ("_law_folded", none)) fd__law_folded := toFun D__law_folded
  obtain ⟨fd__law_draw, D__law_draw⟩ := c.t.d.def_ 22 (d := dd "_law_draw" 51) rfl
  have F__law_draw : Fun K "_law_draw" "_law_draw" (top 51) (He.fAd K ("_law_draw", none)) fd__law_draw := toFun D__law_draw
  obtain ⟨fd__law_begun, D__law_begun⟩ := c.t.d.def_ 23 (d := dd "_law_begun" 52) rfl
  have F__law_begun : Fun K "_law_begun" "_law_begun" (top 52) (He.fAd K ("_law_begun", none)) fd__law_begun := toFun D__law_begun
  obtain ⟨fd__law_like, D__law_like⟩ := c.t.d.def_ 24 (d := dd "_law_like" 53) rfl
  have F__law_like : Fun K "_law_like" "_law_like" (top 53) (He.fAd K ("_law_like", none)) fd__law_like := toFun D__law_like
  obtain ⟨fd__law_table, D__law_table⟩ := c.t.d.def_ 25 (d := dd "_law_table" 54) rfl
  have F__law_table : Fun K "_law_table" "_law_table" (top 54) (He.fAd K ("_law_table", none)) fd__law_table := toFun D__law_table
  obtain ⟨fd__law_finite, D__law_finite⟩ := c.t.d.def_ 26 (d := dd "_law_finite" 55) rfl
  have F__law_finite : Fun K "_law_finite" "_law_finite" (top 55) (He.fAd K ("_law_finite", none)) fd__law_finite := toFun D__law_finite
  obtain ⟨fd__law_shuffled, D__law_shuffled⟩ := c.t.d.def_ 27 (d := dd "_law_shuffled" 56) rfl
  have F__law_shuffled : Fun K "_law_shuffled" "_law_shuffled" (top 56) (He.fAd K ("_law_shuffled", none)) fd__law_shuffled := toFun D__law_shuffled
  obtain ⟨fd__law_heard, D__law_heard⟩ := c.t.d.def_ 28 (d := dd "_law_heard" 57) rfl
  have F__law_heard : Fun K "_law_heard" "_law_heard" (top 57) (He.fAd K ("_law_heard", none)) fd__law_heard := toFun D__law_heard
  obtain ⟨fd__law_line, D__law_line⟩ := c.t.d.def_ 29 (d := dd "_law_line" 58) rfl
  have F__law_line : Fun K "_law_line" "_law_line" (top 58) (He.fAd K ("_law_line", none)) fd__law_line := toFun D__law_line
  obtain ⟨fd_law, D_law⟩ := c.t.d.def_ 30 (d := dd "law" 59) rfl
  have F_law : Fun K "law" "law" (top 59) (He.fAd K ("law", none)) fd_law := toFun D_law
  obtain ⟨fd_init, D_init⟩ := c.t.d.def_ 31 (d := dm "Bonds" "__init__" "Bonds.__init__" 28 0) rfl
  obtain ⟨fd_len, D_len⟩ := c.t.d.def_ 32 (d := dm "Bonds" "__len__" "Bonds.__len__" 28 1) rfl
  have F_init : Fun K "__init__" "Bonds.__init__" s_init (He.fAd K ("Bonds", some "__init__")) fd_init := toFun D_init
  have F_len : Fun K "__len__" "Bonds.__len__" s_len (He.fAd K ("Bonds", some "__len__")) fd_len := toFun D_len
  have e0 := hfa.symm.trans (He.glo_ok X G (c.t.d.fact 30 (f := .glo "law") rfl))
  cases e0
  have cmore := c.more
  obtain ⟨csys, cmore⟩ := Bool.and_eq_true_iff.mp cmore
  have gW : KdAt P w K mg "WEIGHTS" kd_WEIGHTS := kdB_ok (kvs := wts0) (Bool.and_eq_true_iff.mp cmore).1 (He.glo_ok X G (c.t.d.fact 55 (f := .glo "WEIGHTS") rfl)) (by decide)
  have gC : Cls K (He.ga K "Bonds") := He.cls_ok (c.t.d.fact 50 (f := .cls "Bonds") rfl)
  have gT : NoAttr K (He.ga K "Bonds") "table" := He.noat_ok (c.t.d.fact 51 (f := .noat "Bonds" "table") rfl)
  have gV : NoAttr K (He.ga K "Bonds") "weights" := He.noat_ok (c.t.d.fact 52 (f := .noat "Bonds" "weights") rfl)
  have b0 := FunD.bindsA (ps := ["script"]) D_law fun _ _ _ _ _ _ us hl => match us, hl with | [_], _ => rfl
  obtain ⟨xk, xm⟩ := Bool.and_eq_true_iff.mp cmore
  obtain ⟨xn, xm⟩ := Bool.and_eq_true_iff.mp xm
  have hnd : (lamL.map fun x => (He.cT K x.1).2).Nodup := of_decide_eq_true xn
  obtain ⟨xh, xm⟩ := Bool.and_eq_true_iff.mp xm
  obtain ⟨xi, xt⟩ := Bool.and_eq_true_iff.mp xm
  have hH : HAll K := hallB_ok xh
  have hEH := exmHB_ok xi
  obtain ⟨xu_Endless, xt⟩ := Bool.and_eq_true_iff.mp xt
  have u_Endless : Un0 K mg "Endless" := un0B_ok xu_Endless (He.glo_ok X G (c.t.d.fact 66 (f := .glo "Endless") rfl))
  refine ⟨fd_law, fun s v => b0 s [v] rfl, fun base hb hn TB => ?_⟩
  have ok__law_mixed : FnOk P w K mg base CX0 1 _ fd__law_mixed ["cell", "n"] (spD K false sp__law_mixed) := okD F__law_mixed sc__law_mixed [] (by intro ds k R h; first | (rcases h with ⟨_, _, _, rfl, _⟩ | ⟨rfl, _⟩ <;> rfl) | (obtain ⟨rfl, _⟩ := h; rfl) | (obtain ⟨_, rfl, _⟩ := h; rfl) | (obtain ⟨_, _, rfl, _⟩ := h; rfl) | (obtain ⟨_, _, _, rfl, _⟩ := h; rfl) | (obtain ⟨_, _, _, _, rfl, _⟩ := h; rfl) | (obtain ⟨_, _, _, _, _, rfl, _⟩ := h; rfl) | (obtain ⟨_, _, _, _, _, _, rfl, _⟩ := h; rfl) | (obtain ⟨_, _, _, _, _, _, _, rfl, _⟩ := h; rfl)) ⟨_, fun cdv A outer s H E M X0 hr => w__law_mixed (P := P) (w := w) (base := base) (g_int := (He.free_ok X G (c.t.d.fact 32 (f := .free "int") rfl))) _ _ cdv A outer s H E M X0 hr, r__law_mixed⟩
  have c__law_mixed : CalD P w K mg base 1 "_law_mixed" false sp__law_mixed := ⟨_, _, ["cell", "n"], ok__law_mixed, (He.glo_ok X G (c.t.d.fact 20 (f := .glo "_law_mixed") rfl)), D__law_mixed.kp, D__law_mixed.bindsN fun _ _ _ _ _ _ us hl => match us, hl with | [_, _], _ => rfl⟩
  have ok__law_draw : FnOk P w K mg base CX0 2 _ fd__law_draw ["m", "limit"] (spD K true sp__law_draw) := T7.ok__law_draw (fm := 0) F__law_draw c__law_mixed (He.free_ok X G (c.t.d.fact 36 (f := .free "len") rfl)) (He.free_ok X G (c.t.d.fact 32 (f := .free "int") rfl))
  have c__law_draw : CalD P w K mg base 2 "_law_draw" true sp__law_draw := ⟨_, _, ["m", "limit"], ok__law_draw, (He.glo_ok X G (c.t.d.fact 22 (f := .glo "_law_draw") rfl)), D__law_draw.kp, D__law_draw.bindsN fun _ _ _ _ _ _ us hl => match us, hl with | [_, _], _ => rfl⟩
  have ok__law_like : L2G.FnG P w K mg base 1 _ fd__law_like ["told", "due"] (spD K false sp__law_likeE) := okDG F__law_like sc__law_like [] (by intro ds k R h; first | (rcases h with ⟨_, _, _, rfl, _⟩ | ⟨rfl, _⟩ <;> rfl) | (obtain ⟨rfl, _⟩ := h; rfl) | (obtain ⟨_, rfl, _⟩ := h; rfl) | (obtain ⟨_, _, rfl, _⟩ := h; rfl) | (obtain ⟨_, _, _, rfl, _⟩ := h; rfl) | (obtain ⟨_, _, _, _, rfl, _⟩ := h; rfl) | (obtain ⟨_, _, _, _, _, rfl, _⟩ := h; rfl) | (obtain ⟨_, _, _, _, _, _, rfl, _⟩ := h; rfl) | (obtain ⟨_, _, _, _, _, _, _, rfl, _⟩ := h; rfl)) ⟨_, fun cdv A outer s H E M X0 gu hr => w__law_like (P := P) (w := w) (base := base) (g_repr := (He.free_ok X G (c.t.d.fact 43 (f := .free "repr") rfl))) (g_hsy := (sysB_ok csys)) _ _ cdv A outer s H E M X0 gu hr, r__law_likeE⟩
  have c__law_like : CalG P w K mg base 1 "_law_like" false sp__law_likeE := ⟨_, _, ["told", "due"], ok__law_like, (He.glo_ok X G (c.t.d.fact 24 (f := .glo "_law_like") rfl)), D__law_like.kp, D__law_like.bindsN fun _ _ _ _ _ _ us hl => match us, hl with | [_, _], _ => rfl⟩
  have c_len_Bonds : LenD P w K mg base 1 (He.ga K "Bonds") (sp_len_Bonds (He.ga K "Bonds")) := ⟨_, _, ["self"], He.meth_ok (c.t.d.fact 54 (f := .meth "Bonds" "__len__") rfl), ok_len F_len (He.free_ok X G (c.t.d.fact 36 (f := .free "len") rfl)) gC gT, D_len.bindsN fun _ _ _ _ _ _ us hl => match us, hl with | [_], _ => rfl⟩
  have ok_first_row : FnOk P w K mg base CX0 3 _ fd_first_row ["bonds"] (spD K false (sp_first_row (He.ga K "Bonds"))) := okD F_first_row sc_first_row [] (by intro ds k R h; first | (rcases h with ⟨_, _, _, rfl, _⟩ | ⟨rfl, _⟩ <;> rfl) | (obtain ⟨rfl, _⟩ := h; rfl) | (obtain ⟨_, rfl, _⟩ := h; rfl) | (obtain ⟨_, _, rfl, _⟩ := h; rfl) | (obtain ⟨_, _, _, rfl, _⟩ := h; rfl) | (obtain ⟨_, _, _, _, rfl, _⟩ := h; rfl) | (obtain ⟨_, _, _, _, _, rfl, _⟩ := h; rfl) | (obtain ⟨_, _, _, _, _, _, rfl, _⟩ := h; rfl) | (obtain ⟨_, _, _, _, _, _, _, rfl, _⟩ := h; rfl)) ⟨_, fun cdv A outer s H E M X0 hr => w_first_row (BC := He.ga K "Bonds") (P := P) (w := w) (base := base) (g_len := (He.free_ok X G (c.t.d.fact 36 (f := .free "len") rfl))) (c_len_Bonds := c_len_Bonds) _ _ cdv A outer s H E M X0 hr, r_first_row (He.ga K "Bonds")⟩
  have c_first_row : CalD P w K mg base 3 "first_row" false (sp_first_row (He.ga K "Bonds")) := ⟨_, _, ["bonds"], ok_first_row, (He.glo_ok X G (c.t.d.fact 7 (f := .glo "first_row") rfl)), D_first_row.kp, D_first_row.bindsN fun _ _ _ _ _ _ us hl => match us, hl with | [_], _ => rfl⟩
  have ok_pressed : FnOk P w K mg base CX0 1 _ fd_pressed ["bonds", "row", "letter"] (spD K false (sp_pressed (He.ga K "Bonds"))) := okD F_pressed sc_pressed [] (by intro ds k R h; first | (rcases h with ⟨_, _, _, rfl, _⟩ | ⟨rfl, _⟩ <;> rfl) | (obtain ⟨rfl, _⟩ := h; rfl) | (obtain ⟨_, rfl, _⟩ := h; rfl) | (obtain ⟨_, _, rfl, _⟩ := h; rfl) | (obtain ⟨_, _, _, rfl, _⟩ := h; rfl) | (obtain ⟨_, _, _, _, rfl, _⟩ := h; rfl) | (obtain ⟨_, _, _, _, _, rfl, _⟩ := h; rfl) | (obtain ⟨_, _, _, _, _, _, rfl, _⟩ := h; rfl) | (obtain ⟨_, _, _, _, _, _, _, rfl, _⟩ := h; rfl)) ⟨_, fun cdv A outer s H E M X0 hr => w_pressed (BC := He.ga K "Bonds") (P := P) (w := w) (base := base) (g_tuple := (He.free_ok X G (c.t.d.fact 35 (f := .free "tuple") rfl))) (g_zip := (He.free_ok X G (c.t.d.fact 39 (f := .free "zip") rfl))) (g_Bonds := gC) (g_Bonds_weights := gV) _ _ cdv A outer s H E M X0 hr, r_pressed (He.ga K "Bonds")⟩
  have c_pressed : CalD P w K mg base 1 "pressed" false (sp_pressed (He.ga K "Bonds")) := ⟨_, _, ["bonds", "row", "letter"], ok_pressed, (He.glo_ok X G (c.t.d.fact 8 (f := .glo "pressed") rfl)), D_pressed.kp, D_pressed.bindsN fun _ _ _ _ _ _ us hl => match us, hl with | [_, _, _], _ => rfl⟩
  have ok_longest_within : FnOk P w K mg base CX0 4 _ fd_longest_within ["bonds", "choice"] (spD K false (sp_longest_within (He.ga K "Bonds"))) := okD F_longest_within sc_longest_within [] (by intro ds k R h; first | (rcases h with ⟨_, _, _, rfl, _⟩ | ⟨rfl, _⟩ <;> rfl) | (obtain ⟨rfl, _⟩ := h; rfl) | (obtain ⟨_, rfl, _⟩ := h; rfl) | (obtain ⟨_, _, rfl, _⟩ := h; rfl) | (obtain ⟨_, _, _, rfl, _⟩ := h; rfl) | (obtain ⟨_, _, _, _, rfl, _⟩ := h; rfl) | (obtain ⟨_, _, _, _, _, rfl, _⟩ := h; rfl) | (obtain ⟨_, _, _, _, _, _, rfl, _⟩ := h; rfl) | (obtain ⟨_, _, _, _, _, _, _, rfl, _⟩ := h; rfl)) ⟨_, fun cdv A outer s H E M X0 hr => w_longest_within (BC := He.ga K "Bonds") (P := P) (w := w) (base := base) (g_len := (He.free_ok X G (c.t.d.fact 36 (f := .free "len") rfl))) (g_MOST_WORD := (He.int_ok X G (c.t.d.fact 46 (f := .int "MOST_WORD" (60)) rfl))) (c_first_row := c_first_row) (c_pressed := c_pressed) _ _ cdv A outer s H E M X0 hr, r_longest_within (He.ga K "Bonds")⟩
  have c_longest_within : CalD P w K mg base 4 "longest_within" false (sp_longest_within (He.ga K "Bonds")) := ⟨_, _, ["bonds", "choice"], ok_longest_within, (He.glo_ok X G (c.t.d.fact 11 (f := .glo "longest_within") rfl)), D_longest_within.kp, D_longest_within.bindsN fun _ _ _ _ _ _ us hl => match us, hl with | [_, _], _ => rfl⟩
  have ok_all_letters : FnOk P w K mg base CX0 3 _ fd_all_letters ["bonds"] (spD K false (sp_all_letters (He.ga K "Bonds"))) := okD F_all_letters sc_all_letters [] (by intro ds k R h; first | (rcases h with ⟨_, _, _, rfl, _⟩ | ⟨rfl, _⟩ <;> rfl) | (obtain ⟨rfl, _⟩ := h; rfl) | (obtain ⟨_, rfl, _⟩ := h; rfl) | (obtain ⟨_, _, rfl, _⟩ := h; rfl) | (obtain ⟨_, _, _, rfl, _⟩ := h; rfl) | (obtain ⟨_, _, _, _, rfl, _⟩ := h; rfl) | (obtain ⟨_, _, _, _, _, rfl, _⟩ := h; rfl) | (obtain ⟨_, _, _, _, _, _, rfl, _⟩ := h; rfl) | (obtain ⟨_, _, _, _, _, _, _, rfl, _⟩ := h; rfl)) ⟨_, fun cdv A outer s H E M X0 hr => w_all_letters (BC := He.ga K "Bonds") (P := P) (w := w) (base := base) (g_tuple := (He.free_ok X G (c.t.d.fact 35 (f := .free "tuple") rfl))) (g_range := (He.free_ok X G (c.t.d.fact 37 (f := .free "range") rfl))) (g_len := (He.free_ok X G (c.t.d.fact 36 (f := .free "len") rfl))) (c_len_Bonds := c_len_Bonds) _ _ cdv A outer s H E M X0 hr, r_all_letters (He.ga K "Bonds")⟩
  have c_all_letters : CalD P w K mg base 3 "all_letters" false (sp_all_letters (He.ga K "Bonds")) := ⟨_, _, ["bonds"], ok_all_letters, (He.glo_ok X G (c.t.d.fact 10 (f := .glo "all_letters") rfl)), D_all_letters.kp, D_all_letters.bindsN fun _ _ _ _ _ _ us hl => match us, hl with | [_], _ => rfl⟩
  have ok_is_finite : FnOk P w K mg base CX0 5 _ fd_is_finite ["bonds"] (spD K false (sp_is_finite (He.ga K "Bonds"))) := okD F_is_finite sc_is_finite [] (by intro ds k R h; first | (rcases h with ⟨_, _, _, rfl, _⟩ | ⟨rfl, _⟩ <;> rfl) | (obtain ⟨rfl, _⟩ := h; rfl) | (obtain ⟨_, rfl, _⟩ := h; rfl) | (obtain ⟨_, _, rfl, _⟩ := h; rfl) | (obtain ⟨_, _, _, rfl, _⟩ := h; rfl) | (obtain ⟨_, _, _, _, rfl, _⟩ := h; rfl) | (obtain ⟨_, _, _, _, _, rfl, _⟩ := h; rfl) | (obtain ⟨_, _, _, _, _, _, rfl, _⟩ := h; rfl) | (obtain ⟨_, _, _, _, _, _, _, rfl, _⟩ := h; rfl)) ⟨_, fun cdv A outer s H E M X0 hr => w_is_finite (BC := He.ga K "Bonds") (P := P) (w := w) (base := base) (c_longest_within := c_longest_within) (c_all_letters := c_all_letters) _ _ cdv A outer s H E M X0 hr, r_is_finite (He.ga K "Bonds")⟩
  have c_is_finite : CalD P w K mg base 5 "is_finite" false (sp_is_finite (He.ga K "Bonds")) := ⟨_, _, ["bonds"], ok_is_finite, (He.glo_ok X G (c.t.d.fact 12 (f := .glo "is_finite") rfl)), D_is_finite.kp, D_is_finite.bindsN fun _ _ _ _ _ _ us hl => match us, hl with | [_], _ => rfl⟩
  have ok_parts_of : FnOk P w K mg base CX0 1 _ fd_parts_of ["choice", "found"] (spD K false sp_parts_of) := okD F_parts_of sc_parts_of [] (by intro ds k R h; first | (rcases h with ⟨_, _, _, rfl, _⟩ | ⟨rfl, _⟩ <;> rfl) | (obtain ⟨rfl, _⟩ := h; rfl) | (obtain ⟨_, rfl, _⟩ := h; rfl) | (obtain ⟨_, _, rfl, _⟩ := h; rfl) | (obtain ⟨_, _, _, rfl, _⟩ := h; rfl) | (obtain ⟨_, _, _, _, rfl, _⟩ := h; rfl) | (obtain ⟨_, _, _, _, _, rfl, _⟩ := h; rfl) | (obtain ⟨_, _, _, _, _, _, rfl, _⟩ := h; rfl) | (obtain ⟨_, _, _, _, _, _, _, rfl, _⟩ := h; rfl)) ⟨_, fun cdv A outer s H E M X0 hr => w_parts_of (P := P) (w := w) (base := base) (g_all := (He.free_ok X G (c.t.d.fact 40 (f := .free "all") rfl))) _ _ cdv A outer s H E M X0 hr, r_parts_of⟩
  have c_parts_of : CalD P w K mg base 1 "parts_of" false sp_parts_of := ⟨_, _, ["choice", "found"], ok_parts_of, (He.glo_ok X G (c.t.d.fact 15 (f := .glo "parts_of") rfl)), D_parts_of.kp, D_parts_of.bindsN fun _ _ _ _ _ _ us hl => match us, hl with | [_, _], _ => rfl⟩
  have ok_sign_of : FnOk P w K mg base CX0 1 _ fd_sign_of ["many"] (spD K false sp_sign_of) := okD F_sign_of sc_sign_of [] (by intro ds k R h; first | (rcases h with ⟨_, _, _, rfl, _⟩ | ⟨rfl, _⟩ <;> rfl) | (obtain ⟨rfl, _⟩ := h; rfl) | (obtain ⟨_, rfl, _⟩ := h; rfl) | (obtain ⟨_, _, rfl, _⟩ := h; rfl) | (obtain ⟨_, _, _, rfl, _⟩ := h; rfl) | (obtain ⟨_, _, _, _, rfl, _⟩ := h; rfl) | (obtain ⟨_, _, _, _, _, rfl, _⟩ := h; rfl) | (obtain ⟨_, _, _, _, _, _, rfl, _⟩ := h; rfl) | (obtain ⟨_, _, _, _, _, _, _, rfl, _⟩ := h; rfl)) ⟨_, fun cdv A outer s H E M X0 hr => w_sign_of (P := P) (w := w) (base := base)  _ _ cdv A outer s H E M X0 hr, r_sign_of⟩
  have c_sign_of : CalD P w K mg base 1 "sign_of" false sp_sign_of := ⟨_, _, ["many"], ok_sign_of, (He.glo_ok X G (c.t.d.fact 14 (f := .glo "sign_of") rfl)), D_sign_of.kp, D_sign_of.bindsN fun _ _ _ _ _ _ us hl => match us, hl with | [_], _ => rfl⟩
  have ok_one_divided : FnOk P w K mg base CX0 2 _ fd_one_divided ["choice", "longest", "found", "many"] (spD K false sp_one_divided) := okD F_one_divided sc_one_divided [5] (by intro ds k R h; first | (rcases h with ⟨_, _, _, rfl, _⟩ | ⟨rfl, _⟩ <;> rfl) | (obtain ⟨rfl, _⟩ := h; rfl) | (obtain ⟨_, rfl, _⟩ := h; rfl) | (obtain ⟨_, _, rfl, _⟩ := h; rfl) | (obtain ⟨_, _, _, rfl, _⟩ := h; rfl) | (obtain ⟨_, _, _, _, rfl, _⟩ := h; rfl) | (obtain ⟨_, _, _, _, _, rfl, _⟩ := h; rfl) | (obtain ⟨_, _, _, _, _, _, rfl, _⟩ := h; rfl) | (obtain ⟨_, _, _, _, _, _, _, rfl, _⟩ := h; rfl)) ⟨_, fun cdv A outer s H E M X0 hr => w_one_divided (P := P) (w := w) (base := base) (g_len := (He.free_ok X G (c.t.d.fact 36 (f := .free "len") rfl))) (g_range := (He.free_ok X G (c.t.d.fact 37 (f := .free "range") rfl))) (g_sum := (He.free_ok X G (c.t.d.fact 41 (f := .free "sum") rfl))) (c_parts_of := c_parts_of) (c_sign_of := c_sign_of) _ _ cdv A outer s H E M X0 hr, r_one_divided⟩
  have c_one_divided : CalD P w K mg base 2 "one_divided" false sp_one_divided := ⟨_, _, ["choice", "longest", "found", "many"], ok_one_divided, (He.glo_ok X G (c.t.d.fact 16 (f := .glo "one_divided") rfl)), D_one_divided.kp, D_one_divided.bindsN fun _ _ _ _ _ _ us hl => match us, hl with | [_, _, _, _], _ => rfl⟩
  have ok_fewer_first : FnOk P w K mg base CX0 4 (He.fAd K ("fewer_first", none)) fd_fewer_first ["tuples"] (spDT K (TTof K lamL) false sp_fewer_first) := okDT0 F_fewer_first sc_fewer_first [] (by intro ds k R h; first | (rcases h with ⟨_, _, _, rfl, _⟩ | ⟨rfl, _⟩ <;> rfl) | (obtain ⟨rfl, _⟩ := h; rfl) | (obtain ⟨_, rfl, _⟩ := h; rfl) | (obtain ⟨_, _, rfl, _⟩ := h; rfl) | (obtain ⟨_, _, _, rfl, _⟩ := h; rfl) | (obtain ⟨_, _, _, _, rfl, _⟩ := h; rfl) | (obtain ⟨_, _, _, _, _, rfl, _⟩ := h; rfl) | (obtain ⟨_, _, _, _, _, _, rfl, _⟩ := h; rfl) | (obtain ⟨_, _, _, _, _, _, _, rfl, _⟩ := h; rfl)) ⟨_, fun cdv A outer s H E c0 hcd hK fr ho hr => w_fewer_first (BC := He.ga K "Bonds") (P := P) (w := w) (base := base) (g_sorted := (He.free_ok X G (c.t.d.fact 38 (f := .free "sorted") rfl))) (g_len := (He.free_ok X G (c.t.d.fact 36 (f := .free "len") rfl))) _ cdv A outer s H E hK fr (inT_of hnd (x := (("fewer_first", none), lamQ_fewer_first)) (List.mem_cons_self)) ho (TB ("fewer_first", none) (List.mem_cons_self)) hcd hr, r_fewer_first (He.ga K "Bonds") K⟩
  have c_fewer_first : CalT0 P w K mg base 4 "fewer_first" (TTof K lamL) sp_fewer_first := ⟨_, _, ["tuples"], ok_fewer_first, (He.glo_ok X G (c.t.d.fact 6 (f := .glo "fewer_first") rfl)), D_fewer_first.kp, D_fewer_first.bindsN fun _ _ _ _ _ _ us hl => match us, hl with | [_], _ => rfl⟩
  have ok_choices_of : FnOk P w K mg base CX0 5 (He.fAd K ("choices_of", none)) fd_choices_of ["bonds"] (spDT K (TTof K lamL) false (sp_choices_of (He.ga K "Bonds"))) := okDT0 F_choices_of sc_choices_of [] (by intro ds k R h; first | (rcases h with ⟨_, _, _, rfl, _⟩ | ⟨rfl, _⟩ <;> rfl) | (obtain ⟨rfl, _⟩ := h; rfl) | (obtain ⟨_, rfl, _⟩ := h; rfl) | (obtain ⟨_, _, rfl, _⟩ := h; rfl) | (obtain ⟨_, _, _, rfl, _⟩ := h; rfl) | (obtain ⟨_, _, _, _, rfl, _⟩ := h; rfl) | (obtain ⟨_, _, _, _, _, rfl, _⟩ := h; rfl) | (obtain ⟨_, _, _, _, _, _, rfl, _⟩ := h; rfl) | (obtain ⟨_, _, _, _, _, _, _, rfl, _⟩ := h; rfl)) ⟨_, fun cdv A outer s H E c0 hcd hK fr ho hr => w_choices_of (BC := He.ga K "Bonds") (P := P) (w := w) (base := base) (g_range := (He.free_ok X G (c.t.d.fact 37 (f := .free "range") rfl))) (g_len := (He.free_ok X G (c.t.d.fact 36 (f := .free "len") rfl))) (g_tuple := (He.free_ok X G (c.t.d.fact 35 (f := .free "tuple") rfl))) (c_fewer_first := c_fewer_first) (c_len_Bonds := c_len_Bonds) _ cdv A outer s H E hK fr ho  hcd hr, r_choices_of (He.ga K "Bonds") K⟩
  have c_choices_of : CalT0 P w K mg base 5 "choices_of" (TTof K lamL) (sp_choices_of (He.ga K "Bonds")) := ⟨_, _, ["bonds"], ok_choices_of, (He.glo_ok X G (c.t.d.fact 9 (f := .glo "choices_of") rfl)), D_choices_of.kp, D_choices_of.bindsN fun _ _ _ _ _ _ us hl => match us, hl with | [_], _ => rfl⟩
  have ok_inverse : FnOk P w K mg base CX0 1 _ fd_inverse ["numbers"] (spD K false sp_inverse) := okD F_inverse sc_inverse [1] (by intro ds k R h; first | (rcases h with ⟨_, _, _, rfl, _⟩ | ⟨rfl, _⟩ <;> rfl) | (obtain ⟨rfl, _⟩ := h; rfl) | (obtain ⟨_, rfl, _⟩ := h; rfl) | (obtain ⟨_, _, rfl, _⟩ := h; rfl) | (obtain ⟨_, _, _, rfl, _⟩ := h; rfl) | (obtain ⟨_, _, _, _, rfl, _⟩ := h; rfl) | (obtain ⟨_, _, _, _, _, rfl, _⟩ := h; rfl) | (obtain ⟨_, _, _, _, _, _, rfl, _⟩ := h; rfl) | (obtain ⟨_, _, _, _, _, _, _, rfl, _⟩ := h; rfl)) ⟨_, fun cdv A outer s H E M X0 hr => w_inverse (P := P) (w := w) (base := base) (g_range := (He.free_ok X G (c.t.d.fact 37 (f := .free "range") rfl))) (g_len := (He.free_ok X G (c.t.d.fact 36 (f := .free "len") rfl))) (g_sum := (He.free_ok X G (c.t.d.fact 41 (f := .free "sum") rfl))) _ _ cdv A outer s H E M X0 hr, r_inverse⟩
  have c_inverse : CalD P w K mg base 1 "inverse" false sp_inverse := ⟨_, _, ["numbers"], ok_inverse, (He.glo_ok X G (c.t.d.fact 17 (f := .glo "inverse") rfl)), D_inverse.kp, D_inverse.bindsN fun _ _ _ _ _ _ us hl => match us, hl with | [_], _ => rfl⟩
  have ok_is_whole : FnOk P w K mg base CX0 1 _ fd_is_whole ["value"] (spD K false sp_is_whole) := okD F_is_whole sc_is_whole [] (by intro ds k R h; first | (rcases h with ⟨_, _, _, rfl, _⟩ | ⟨rfl, _⟩ <;> rfl) | (obtain ⟨rfl, _⟩ := h; rfl) | (obtain ⟨_, rfl, _⟩ := h; rfl) | (obtain ⟨_, _, rfl, _⟩ := h; rfl) | (obtain ⟨_, _, _, rfl, _⟩ := h; rfl) | (obtain ⟨_, _, _, _, rfl, _⟩ := h; rfl) | (obtain ⟨_, _, _, _, _, rfl, _⟩ := h; rfl) | (obtain ⟨_, _, _, _, _, _, rfl, _⟩ := h; rfl) | (obtain ⟨_, _, _, _, _, _, _, rfl, _⟩ := h; rfl)) ⟨_, fun cdv A outer s H E M X0 hr => w_is_whole (P := P) (w := w) (base := base) (g_isinstance := (He.free_ok X G (c.t.d.fact 31 (f := .free "isinstance") rfl))) (g_int := (He.free_ok X G (c.t.d.fact 32 (f := .free "int") rfl))) (g_bool := (He.free_ok X G (c.t.d.fact 33 (f := .free "bool") rfl))) _ _ cdv A outer s H E M X0 hr, r_is_whole⟩
  have c_is_whole : CalD P w K mg base 1 "is_whole" false sp_is_whole := ⟨_, _, ["value"], ok_is_whole, (He.glo_ok X G (c.t.d.fact 0 (f := .glo "is_whole") rfl)), D_is_whole.kp, D_is_whole.bindsN fun _ _ _ _ _ _ us hl => match us, hl with | [_], _ => rfl⟩
  have ok_check_number : FnOk P w K mg base CX0 2 _ fd_check_number ["value", "most"] (spD K false sp_check_number) := okD F_check_number sc_check_number [] (by intro ds k R h; first | (rcases h with ⟨_, _, _, rfl, _⟩ | ⟨rfl, _⟩ <;> rfl) | (obtain ⟨rfl, _⟩ := h; rfl) | (obtain ⟨_, rfl, _⟩ := h; rfl) | (obtain ⟨_, _, rfl, _⟩ := h; rfl) | (obtain ⟨_, _, _, rfl, _⟩ := h; rfl) | (obtain ⟨_, _, _, _, rfl, _⟩ := h; rfl) | (obtain ⟨_, _, _, _, _, rfl, _⟩ := h; rfl) | (obtain ⟨_, _, _, _, _, _, rfl, _⟩ := h; rfl) | (obtain ⟨_, _, _, _, _, _, _, rfl, _⟩ := h; rfl)) ⟨_, fun cdv A outer s H E M X0 hr => w_check_number (P := P) (w := w) (base := base) (c_is_whole := c_is_whole) _ _ cdv A outer s H E M X0 hr, r_check_number⟩
  have c_check_number : CalD P w K mg base 2 "check_number" false sp_check_number := ⟨_, _, ["value", "most"], ok_check_number, (He.glo_ok X G (c.t.d.fact 13 (f := .glo "check_number") rfl)), D_check_number.kp, D_check_number.bindsN fun _ _ _ _ _ _ us hl => match us, hl with | [_, _], _ => rfl⟩
  have ok_counts : FnOk P w K mg base CX0 6 (He.fAd K ("counts", none)) fd_counts ["bonds", "many"] (spDT K (TTof K lamL) false (sp_counts (He.ga K "Bonds"))) := okDT0 F_counts sc_counts [] (by intro ds k R h; first | (rcases h with ⟨_, _, _, rfl, _⟩ | ⟨rfl, _⟩ <;> rfl) | (obtain ⟨rfl, _⟩ := h; rfl) | (obtain ⟨_, rfl, _⟩ := h; rfl) | (obtain ⟨_, _, rfl, _⟩ := h; rfl) | (obtain ⟨_, _, _, rfl, _⟩ := h; rfl) | (obtain ⟨_, _, _, _, rfl, _⟩ := h; rfl) | (obtain ⟨_, _, _, _, _, rfl, _⟩ := h; rfl) | (obtain ⟨_, _, _, _, _, _, rfl, _⟩ := h; rfl) | (obtain ⟨_, _, _, _, _, _, _, rfl, _⟩ := h; rfl)) ⟨_, fun cdv A outer s H E c0 hcd hK fr ho hr => w_counts (BC := He.ga K "Bonds") (P := P) (w := w) (base := base) (g_tuple := (He.free_ok X G (c.t.d.fact 35 (f := .free "tuple") rfl))) (g_MOST_WORD := (He.int_ok X G (c.t.d.fact 46 (f := .int "MOST_WORD" (60)) rfl))) (c_one_divided := c_one_divided) (c_longest_within := c_longest_within) (c_choices_of := c_choices_of) (c_inverse := c_inverse) (c_all_letters := c_all_letters) (c_check_number := c_check_number) _ cdv A outer s H E hK fr ho  hcd hr, r_counts (He.ga K "Bonds") K⟩
  have c_counts : CalT0 P w K mg base 6 "counts" (TTof K lamL) (sp_counts (He.ga K "Bonds")) := ⟨_, _, ["bonds", "many"], ok_counts, (He.glo_ok X G (c.t.d.fact 18 (f := .glo "counts") rfl)), D_counts.kp, D_counts.bindsN fun _ _ _ _ _ _ us hl => match us, hl with | [_, _], _ => rfl⟩
  have ok_size : FnOk P w K mg base CX0 7 (He.fAd K ("size", none)) fd_size ["bonds"] (spDT K (TTof K lamL) false (sp_size (He.ga K "Bonds"))) := okDT0 F_size sc_size [] (by intro ds k R h; first | (rcases h with ⟨_, _, _, rfl, _⟩ | ⟨rfl, _⟩ <;> rfl) | (obtain ⟨rfl, _⟩ := h; rfl) | (obtain ⟨_, rfl, _⟩ := h; rfl) | (obtain ⟨_, _, rfl, _⟩ := h; rfl) | (obtain ⟨_, _, _, rfl, _⟩ := h; rfl) | (obtain ⟨_, _, _, _, rfl, _⟩ := h; rfl) | (obtain ⟨_, _, _, _, _, rfl, _⟩ := h; rfl) | (obtain ⟨_, _, _, _, _, _, rfl, _⟩ := h; rfl) | (obtain ⟨_, _, _, _, _, _, _, rfl, _⟩ := h; rfl)) ⟨_, fun cdv A outer s H E c0 hcd hK fr ho hr => w_size (BC := He.ga K "Bonds") (P := P) (w := w) (base := base) (g_sum := (He.free_ok X G (c.t.d.fact 41 (f := .free "sum") rfl))) (g_MOST_WORD := (He.int_ok X G (c.t.d.fact 46 (f := .int "MOST_WORD" (60)) rfl))) (c_is_finite := c_is_finite) (c_counts := c_counts) _ cdv A outer s H E hK fr ho  hcd hr, r_size (He.ga K "Bonds") K⟩
  have c_size : CalT0 P w K mg base 7 "size" (TTof K lamL) (sp_size (He.ga K "Bonds")) := ⟨_, _, ["bonds"], ok_size, (He.glo_ok X G (c.t.d.fact 19 (f := .glo "size") rfl)), D_size.kp, D_size.bindsN fun _ _ _ _ _ _ us hl => match us, hl with | [_], _ => rfl⟩
  have ok_check_shape : FnOk P w K mg base CX0 1 _ fd_check_shape ["rows"] (spD K false sp_check_shape) := okD F_check_shape sc_check_shape [] (by intro ds k R h; first | (rcases h with ⟨_, _, _, rfl, _⟩ | ⟨rfl, _⟩ <;> rfl) | (obtain ⟨rfl, _⟩ := h; rfl) | (obtain ⟨_, rfl, _⟩ := h; rfl) | (obtain ⟨_, _, rfl, _⟩ := h; rfl) | (obtain ⟨_, _, _, rfl, _⟩ := h; rfl) | (obtain ⟨_, _, _, _, rfl, _⟩ := h; rfl) | (obtain ⟨_, _, _, _, _, rfl, _⟩ := h; rfl) | (obtain ⟨_, _, _, _, _, _, rfl, _⟩ := h; rfl) | (obtain ⟨_, _, _, _, _, _, _, rfl, _⟩ := h; rfl)) ⟨_, fun cdv A outer s H E M X0 hr => w_check_shape (P := P) (w := w) (base := base) (g_isinstance := (He.free_ok X G (c.t.d.fact 31 (f := .free "isinstance") rfl))) (g_list := (He.free_ok X G (c.t.d.fact 34 (f := .free "list") rfl))) (g_tuple := (He.free_ok X G (c.t.d.fact 35 (f := .free "tuple") rfl))) (g_len := (He.free_ok X G (c.t.d.fact 36 (f := .free "len") rfl))) (g_MOST_LETTERS := (He.int_ok X G (c.t.d.fact 45 (f := .int "MOST_LETTERS" (6)) rfl))) _ _ cdv A outer s H E M X0 hr, r_check_shape⟩
  have c_check_shape : CalD P w K mg base 1 "check_shape" false sp_check_shape := ⟨_, _, ["rows"], ok_check_shape, (He.glo_ok X G (c.t.d.fact 2 (f := .glo "check_shape") rfl)), D_check_shape.kp, D_check_shape.bindsN fun _ _ _ _ _ _ us hl => match us, hl with | [_], _ => rfl⟩
  have ok_can_stand : FnOk P w K mg base CX0 2 _ fd_can_stand ["rows", "one", "other"] (spD K false sp_can_stand) := okD F_can_stand sc_can_stand [] (by intro ds k R h; first | (rcases h with ⟨_, _, _, rfl, _⟩ | ⟨rfl, _⟩ <;> rfl) | (obtain ⟨rfl, _⟩ := h; rfl) | (obtain ⟨_, rfl, _⟩ := h; rfl) | (obtain ⟨_, _, rfl, _⟩ := h; rfl) | (obtain ⟨_, _, _, rfl, _⟩ := h; rfl) | (obtain ⟨_, _, _, _, rfl, _⟩ := h; rfl) | (obtain ⟨_, _, _, _, _, rfl, _⟩ := h; rfl) | (obtain ⟨_, _, _, _, _, _, rfl, _⟩ := h; rfl) | (obtain ⟨_, _, _, _, _, _, _, rfl, _⟩ := h; rfl)) ⟨_, fun cdv A outer s H E M X0 hr => w_can_stand (P := P) (w := w) (base := base) (g_OWN_BOND := (He.int_ok X G (c.t.d.fact 47 (f := .int "OWN_BOND" (1)) rfl))) (g_WEIGHTS := gW) (c_is_whole := c_is_whole) _ _ cdv A outer s H E M X0 hr, r_can_stand⟩
  have c_can_stand : CalD P w K mg base 2 "can_stand" false sp_can_stand := ⟨_, _, ["rows", "one", "other"], ok_can_stand, (He.glo_ok X G (c.t.d.fact 1 (f := .glo "can_stand") rfl)), D_can_stand.kp, D_can_stand.bindsN fun _ _ _ _ _ _ us hl => match us, hl with | [_, _, _], _ => rfl⟩
  have ok_check_table : FnOk P w K mg base CX0 3 _ fd_check_table ["rows"] (spD K false sp_check_table) := okD F_check_table sc_check_table [] (by intro ds k R h; first | (rcases h with ⟨_, _, _, rfl, _⟩ | ⟨rfl, _⟩ <;> rfl) | (obtain ⟨rfl, _⟩ := h; rfl) | (obtain ⟨_, rfl, _⟩ := h; rfl) | (obtain ⟨_, _, rfl, _⟩ := h; rfl) | (obtain ⟨_, _, _, rfl, _⟩ := h; rfl) | (obtain ⟨_, _, _, _, rfl, _⟩ := h; rfl) | (obtain ⟨_, _, _, _, _, rfl, _⟩ := h; rfl) | (obtain ⟨_, _, _, _, _, _, rfl, _⟩ := h; rfl) | (obtain ⟨_, _, _, _, _, _, _, rfl, _⟩ := h; rfl)) ⟨_, fun cdv A outer s H E M X0 hr => w_check_table (P := P) (w := w) (base := base) (g_list := (He.free_ok X G (c.t.d.fact 34 (f := .free "list") rfl))) (g_range := (He.free_ok X G (c.t.d.fact 37 (f := .free "range") rfl))) (g_len := (He.free_ok X G (c.t.d.fact 36 (f := .free "len") rfl))) (c_check_shape := c_check_shape) (c_can_stand := c_can_stand) _ _ cdv A outer s H E M X0 hr, r_check_table⟩
  have c_check_table : CalD P w K mg base 3 "check_table" false sp_check_table := ⟨_, _, ["rows"], ok_check_table, (He.glo_ok X G (c.t.d.fact 3 (f := .glo "check_table") rfl)), D_check_table.kp, D_check_table.bindsN fun _ _ _ _ _ _ us hl => match us, hl with | [_], _ => rfl⟩
  have ok_weight_of : FnOk P w K mg base CX0 1 _ fd_weight_of ["table", "one", "other"] (spD K false sp_weight_of) := okD F_weight_of sc_weight_of [] (by intro ds k R h; first | (rcases h with ⟨_, _, _, rfl, _⟩ | ⟨rfl, _⟩ <;> rfl) | (obtain ⟨rfl, _⟩ := h; rfl) | (obtain ⟨_, rfl, _⟩ := h; rfl) | (obtain ⟨_, _, rfl, _⟩ := h; rfl) | (obtain ⟨_, _, _, rfl, _⟩ := h; rfl) | (obtain ⟨_, _, _, _, rfl, _⟩ := h; rfl) | (obtain ⟨_, _, _, _, _, rfl, _⟩ := h; rfl) | (obtain ⟨_, _, _, _, _, _, rfl, _⟩ := h; rfl) | (obtain ⟨_, _, _, _, _, _, _, rfl, _⟩ := h; rfl)) ⟨_, fun cdv A outer s H E M X0 hr => w_weight_of (P := P) (w := w) (base := base) (g_OWN_WEIGHT := (He.int_ok X G (c.t.d.fact 48 (f := .int "OWN_WEIGHT" (-2)) rfl))) (g_WEIGHTS := gW) _ _ cdv A outer s H E M X0 hr, r_weight_of⟩
  have c_weight_of : CalD P w K mg base 1 "weight_of" false sp_weight_of := ⟨_, _, ["table", "one", "other"], ok_weight_of, (He.glo_ok X G (c.t.d.fact 4 (f := .glo "weight_of") rfl)), D_weight_of.kp, D_weight_of.bindsN fun _ _ _ _ _ _ us hl => match us, hl with | [_, _, _], _ => rfl⟩
  have ok_weights_from : FnOk P w K mg base CX0 2 _ fd_weights_from ["table", "one"] (spD K false sp_weights_from) := okD F_weights_from sc_weights_from [] (by intro ds k R h; first | (rcases h with ⟨_, _, _, rfl, _⟩ | ⟨rfl, _⟩ <;> rfl) | (obtain ⟨rfl, _⟩ := h; rfl) | (obtain ⟨_, rfl, _⟩ := h; rfl) | (obtain ⟨_, _, rfl, _⟩ := h; rfl) | (obtain ⟨_, _, _, rfl, _⟩ := h; rfl) | (obtain ⟨_, _, _, _, rfl, _⟩ := h; rfl) | (obtain ⟨_, _, _, _, _, rfl, _⟩ := h; rfl) | (obtain ⟨_, _, _, _, _, _, rfl, _⟩ := h; rfl) | (obtain ⟨_, _, _, _, _, _, _, rfl, _⟩ := h; rfl)) ⟨_, fun cdv A outer s H E M X0 hr => w_weights_from (P := P) (w := w) (base := base) (g_tuple := (He.free_ok X G (c.t.d.fact 35 (f := .free "tuple") rfl))) (g_range := (He.free_ok X G (c.t.d.fact 37 (f := .free "range") rfl))) (g_len := (He.free_ok X G (c.t.d.fact 36 (f := .free "len") rfl))) (c_weight_of := c_weight_of) _ _ cdv A outer s H E M X0 hr, r_weights_from⟩
  have c_weights_from : CalD P w K mg base 2 "weights_from" false sp_weights_from := ⟨_, _, ["table", "one"], ok_weights_from, (He.glo_ok X G (c.t.d.fact 5 (f := .glo "weights_from") rfl)), D_weights_from.kp, D_weights_from.bindsN fun _ _ _ _ _ _ us hl => match us, hl with | [_, _], _ => rfl⟩
  have c_Bonds : MakD P w K mg base 4 "Bonds" (He.ga K "Bonds") (sp_Bonds (He.ga K "Bonds")) := ⟨_, _, ["self", "rows"], He.mkr_ok (c.t.d.fact 53 (f := .mkr "Bonds") rfl), ok_init F_init (He.free_ok X G (c.t.d.fact 35 (f := .free "tuple") rfl)) (He.free_ok X G (c.t.d.fact 37 (f := .free "range") rfl)) (He.free_ok X G (c.t.d.fact 36 (f := .free "len") rfl)) c_check_table c_weights_from gC gT gV, (He.glo_ok X G (c.t.d.fact 49 (f := .glo "Bonds") rfl)), D_init.bindsN fun _ _ _ _ _ _ us hl => match us, hl with | [_, _], _ => rfl⟩
  have ok__law_shuffled : FnOk P w K mg base CX0 3 _ fd__law_shuffled ["m", "rows"] (spD K true sp__law_shuffled) := okD F__law_shuffled sc__law_shuffled [3, 2] (by intro ds k R h; first | (rcases h with ⟨_, _, _, rfl, _⟩ | ⟨rfl, _⟩ <;> rfl) | (obtain ⟨rfl, _⟩ := h; rfl) | (obtain ⟨_, rfl, _⟩ := h; rfl) | (obtain ⟨_, _, rfl, _⟩ := h; rfl) | (obtain ⟨_, _, _, rfl, _⟩ := h; rfl) | (obtain ⟨_, _, _, _, rfl, _⟩ := h; rfl) | (obtain ⟨_, _, _, _, _, rfl, _⟩ := h; rfl) | (obtain ⟨_, _, _, _, _, _, rfl, _⟩ := h; rfl) | (obtain ⟨_, _, _, _, _, _, _, rfl, _⟩ := h; rfl)) ⟨_, fun cdv A outer s H E M X0 hr => w__law_shuffled (P := P) (w := w) (base := base) (g_list := (He.free_ok X G (c.t.d.fact 34 (f := .free "list") rfl))) (g_range := (He.free_ok X G (c.t.d.fact 37 (f := .free "range") rfl))) (g_len := (He.free_ok X G (c.t.d.fact 36 (f := .free "len") rfl))) (c__law_draw := c__law_draw) _ _ cdv A outer s H E M X0 hr, r__law_shuffled⟩
  have c__law_shuffled : CalD P w K mg base 3 "_law_shuffled" true sp__law_shuffled := ⟨_, _, ["m", "rows"], ok__law_shuffled, (He.glo_ok X G (c.t.d.fact 27 (f := .glo "_law_shuffled") rfl)), D__law_shuffled.kp, D__law_shuffled.bindsN fun _ _ _ _ _ _ us hl => match us, hl with | [_, _], _ => rfl⟩
  have ok__law_table := ok__law_tableS (P := P) (w := w) (base := base) (mg := mg) F__law_table (He.free_ok X G (c.t.d.fact 37 (f := .free "range") rfl)) (He.free_ok X G (c.t.d.fact 36 (f := .free "len") rfl)) c__law_draw
  have c__law_table : CalD P w K mg base 3 "_law_table" true sp__law_tableS := ⟨_, _, ["m", "many", "some"], ok__law_table, (He.glo_ok X G (c.t.d.fact 25 (f := .glo "_law_table") rfl)), D__law_table.kp, D__law_table.bindsN fun _ _ _ _ _ _ us hl => match us, hl with | [_, _, _], _ => rfl⟩
  have ok__law_folded := T7.ok__law_folded (P := P) (w := w) (base := base) (mg := mg) (K := K) (f := He.fAd K ("_law_folded", none)) (fd := fd__law_folded) F__law_folded (He.free_ok X G (c.t.d.fact 37 (f := .free "range") rfl)) (He.free_ok X G (c.t.d.fact 42 (f := .free "enumerate") rfl)) (He.free_ok X G (c.t.d.fact 32 (f := .free "int") rfl))
  have ok__law_begun := T7.ok__law_begun (P := P) (w := w) (base := base) (mg := mg) F__law_begun ok__law_folded (He.glo_ok X G (c.t.d.fact 21 (f := .glo "_law_folded") rfl)) D__law_folded.kp (D__law_folded.bindsN fun _ _ _ _ _ _ us hl => match us, hl with | [_], _ => rfl)
  have ok__law_finite : FnOk P w K mg base CX0 4 _ fd__law_finite ["m", "most"] (spD K true sp__law_finite) := okD F__law_finite sc__law_finite [2] (by intro ds k R h; first | (rcases h with ⟨_, _, _, rfl, _⟩ | ⟨rfl, _⟩ <;> rfl) | (obtain ⟨rfl, _⟩ := h; rfl) | (obtain ⟨_, rfl, _⟩ := h; rfl) | (obtain ⟨_, _, rfl, _⟩ := h; rfl) | (obtain ⟨_, _, _, rfl, _⟩ := h; rfl) | (obtain ⟨_, _, _, _, rfl, _⟩ := h; rfl) | (obtain ⟨_, _, _, _, _, rfl, _⟩ := h; rfl) | (obtain ⟨_, _, _, _, _, _, rfl, _⟩ := h; rfl) | (obtain ⟨_, _, _, _, _, _, _, rfl, _⟩ := h; rfl)) ⟨_, fun cdv A outer s H E M X0 hr => w__law_finite (P := P) (w := w) (base := base) (g_len := (He.free_ok X G (c.t.d.fact 36 (f := .free "len") rfl))) (g_list := (He.free_ok X G (c.t.d.fact 34 (f := .free "list") rfl))) (c__law_draw := c__law_draw) (c__law_shuffled := c__law_shuffled) _ _ cdv A outer s H E M X0 hr, r__law_finite⟩
  have c__law_finite : CalD P w K mg base 4 "_law_finite" true sp__law_finite := ⟨_, _, ["m", "most"], ok__law_finite, (He.glo_ok X G (c.t.d.fact 26 (f := .glo "_law_finite") rfl)), D__law_finite.kp, D__law_finite.bindsN fun _ _ _ _ _ _ us hl => match us, hl with | [_, _], _ => rfl⟩
  have ok__law_lineL0 := ok__law_lineL (P := P) (w := w) (base := base) (mg := mg) F__law_line (He.free_ok X G (c.t.d.fact 37 (f := .free "range") rfl))
  have ok__law_line := (ok__law_line ok__law_lineL0).mono (show 1 ≤ 5 by decide)
  have c__law_line : CalD P w K mg base 5 "_law_line" false sp__law_line := ⟨_, _, ["many", "first"], ok__law_line, (He.glo_ok X G (c.t.d.fact 29 (f := .glo "_law_line") rfl)), D__law_line.kp, D__law_line.bindsN fun _ _ _ _ _ _ us hl => match us, hl with | [_, _], _ => rfl⟩
  have hst : HeardSt P w K mg base (top 57) sp__law_heard := ⟨_, t__law_heard K, _, _, _, _, _, _, _, _, _, _, _, _, _, _, _, _, _, _, _, _, _, _, _, _, _, _, rfl, rfl, fun _ _ _ _ _ _ => rfl, fun g cdv A ou s H c9 hr hc ho => w_heard (g_isinstance := (He.free_ok X G (c.t.d.fact 31 (f := .free "isinstance") rfl))) (g_ValueError := (He.free_ok X G (c.t.d.fact 44 (f := .free "ValueError") rfl))) (g_zip := (He.free_ok X G (c.t.d.fact 39 (f := .free "zip") rfl))) (g_len := (He.free_ok X G (c.t.d.fact 36 (f := .free "len") rfl))) (m_TooGreat := (He.glo_ok X G (c.t.d.fact 63 (f := .glo "TooGreat") rfl))) (m_BadBonds := (He.glo_ok X G (c.t.d.fact 57 (f := .glo "BadBonds") rfl))) (m_BadWord := (He.glo_ok X G (c.t.d.fact 58 (f := .glo "BadWord") rfl))) (m_BadDeed := (He.glo_ok X G (c.t.d.fact 60 (f := .glo "BadDeed") rfl))) (m_BadText := (He.glo_ok X G (c.t.d.fact 64 (f := .glo "BadText") rfl))) (m_BadRow := (He.glo_ok X G (c.t.d.fact 59 (f := .glo "BadRow") rfl))) (m_BadNumber := (He.glo_ok X G (c.t.d.fact 61 (f := .glo "BadNumber") rfl))) (m_BadChoice := (He.glo_ok X G (c.t.d.fact 65 (f := .glo "BadChoice") rfl))) (m_Unlike := (He.glo_ok X G (c.t.d.fact 62 (f := .glo "Unlike") rfl))) (m_Endless := (He.glo_ok X G (c.t.d.fact 66 (f := .glo "Endless") rfl))) (m_NothingLeft := (He.glo_ok X G (c.t.d.fact 67 (f := .glo "NothingLeft") rfl))) g cdv A ou s H c9 hr hc ho, r__law_heard K hH⟩
  have hd : HdB P w K mg base NHD sp__law_heard := ⟨top 57, _, _, _, _, F__law_heard, D__law_heard.bindsN (fun _ _ _ _ _ _ us hl => match us, hl with | [_], _ => rfl), (He.glo_ok X G (c.t.d.fact 28 (f := .glo "_law_heard") rfl)), (He.glo_ok X G (c.t.d.fact 56 (f := .glo "BondError") rfl)), (He.glo_ok X G (c.t.d.fact 63 (f := .glo "TooGreat") rfl)), hEH, hst⟩
  have okXT_size : FnOk P w K mg base (L2.CX P w) 7 (He.fAd K ("size", none)) fd_size ["bonds"] (spDXT K (TTof K lamL) (spX_size (He.ga K "Bonds"))) := okDXT F_size sc_size [] (by intro ds k R E h; first | (obtain ⟨_, rfl, _⟩ := h; rfl) | (obtain ⟨_, _, rfl, _⟩ := h; rfl)) ⟨tX_size (He.ga K "Bonds"), fun cdv A outer s H E c0 Ex hcd hK fr ho hr tk => wXT_size (BC := (He.ga K "Bonds")) (P := P) (w := w) (base := base) (g_sum := (He.free_ok X G (c.t.d.fact 41 (f := .free "sum") rfl))) (g_MOST_WORD := (He.int_ok X G (c.t.d.fact 46 (f := .int "MOST_WORD" (60)) rfl))) (u_Endless := u_Endless) (c_is_finite := c_is_finite) (c_counts := c_counts) _ cdv A outer s H E Ex hK fr ho hr tk, fun X ds k R E h => rX_size (He.ga K "Bonds") X ds k R E h⟩
  have cXT_size : CalXT P w K mg base 7 "size" (TTof K lamL) (spX_size (He.ga K "Bonds")) := ⟨_, _, ["bonds"], okXT_size, (He.glo_ok X G (c.t.d.fact 19 (f := .glo "size") rfl)), D_size.kp, D_size.bindsN fun _ _ _ _ _ _ us hl => match us, hl with | [_], _ => rfl⟩
  have cL : CalL P w K mg base 1 := ⟨_, _, ok__law_lineL0, (He.glo_ok X G (c.t.d.fact 29 (f := .glo "_law_line") rfl)), D__law_line.kp, D__law_line.bindsN fun _ _ _ _ _ _ us hl => match us, hl with | [_, _], _ => rfl⟩
  exact ok_law (T := TTof K lamL) (g_isinstance := (He.free_ok X G (c.t.d.fact 31 (f := .free "isinstance") rfl))) (g_list := (He.free_ok X G (c.t.d.fact 34 (f := .free "list") rfl))) (g_range := (He.free_ok X G (c.t.d.fact 37 (f := .free "range") rfl))) (g_sum := (He.free_ok X G (c.t.d.fact 41 (f := .free "sum") rfl))) (hd := hd) (c__law_draw := c__law_draw) (c__law_like := c__law_like) (c_size := c_size) (c_Bonds := c_Bonds) (c__law_shuffled := c__law_shuffled) (c__law_table := c__law_table) (c_is_finite := c_is_finite) (c__law_finite := c__law_finite) (c_counts := c_counts) (c__law_line := c__law_line) (cXT_size := cXT_size) (cL := cL) F_law ok__law_begun (He.glo_ok X G (c.t.d.fact 23 (f := .glo "_law_begun") rfl)) D__law_begun.kp (D__law_begun.bindsN fun _ _ _ _ _ _ us hl => match us, hl with | [_], _ => rfl) (Pt := (He.cT K ("law", none)).2) (inT_of hnd (x := (("law", none), lamQ)) ((List.mem_cons_of_mem _ List.mem_cons_self))) (TB ("law", none) ((List.mem_cons_of_mem _ List.mem_cons_self)))
theorem ob_eq (s : PySem.W.SharedT) : ob s = hk.obs s.abs := obsS_eq (HandSHeadRun.getT_eq s)
end BW
set_option maxHeartbeats 0
namespace BW
open PySem PySem.Spec PyProof.Rows L2
theorem run (w : World) : HandSHeadRun.RunEq R (PySem.W.view R.prog [59]) hk ob 6000 names w := PySem.W.byRow2 "special-get-raises" (P := PR) run0 run1 w
end BW
open PySem PySem.W PyProof.Rows
set_option maxRecDepth 100000 in
set_option maxHeartbeats 0 in
theorem PySem.Challenge.cw_bondwords_k55_sizes_holds : PySem.Challenge.rw_bondwords_k55_sizes.Holds := by
  w_on; o_law
  refine HandSHeadRun.head_any (r := OpenLaw.row PySem.Challenge.rw_bondwords_k55_sizes) (q := view (OpenLaw.row PySem.Challenge.rw_bondwords_k55_sizes).prog [59]) (H := BW.hk) (ob := BW.ob) (M := 6000) (loose := BW.names) (d := HandSHeadRun.topDef (OpenLaw.row PySem.Challenge.rw_bondwords_k55_sizes).prog 59) (kwd := []) BW.ob_eq
    (by kernel_rfl) (fun s => by kernel_rfl) BW.run (by kernel_rfl) (by kernel_rfl) (by kernel_rfl) (by rfl) (by first | assumption | decide +kernel) (by decide +kernel) ⟨rfl, rfl, rfl, rfl, rfl, by decide +kernel⟩ ?hw ?hc
  case hw => w_witness2
  case hc =>
    refine L2G.walkGT (l := PySem.Challenge.rw_bondwords_k55_sizes) (n := 63) (k := 10) (x := "script") rfl (by decide) (by kernel_rfl) ⟨rfl, by decide, by decide⟩ ?F
    intro w mz fz hz ⟨K, kin, says⟩ ns0 at0
    have atL : mz ("law" : PySem.Str) = some (.ref fz) := by
      rw [show ("law" : PySem.Str) = (HandSHeadRun.topDef (OpenLaw.row PySem.Challenge.rw_bondwords_k55_sizes).prog 59).name from by kernel_rfl]
      exact at0
    obtain ⟨fd, hb, hF⟩ := BW.facts (P := (PySem.Challenge.rw_bondwords_k55_sizes).prog) (w := w) kin ns0 atL says
    refine ⟨K, fd, BW.spLaw K (DL.TTof K BW.lamL), BW.tfL.map (He.cT K), kin, fun p hp => ?_, fun p hp => ?_, fun p hp => ?_, hb, fun H a ns hl tb hS => ⟨a, ns, rfl, hS, hl, fun p hp => ?_, fun _ => rfl⟩, fun base b1 b2 b3 => hF base b1 b2 fun n hn => b3 _ (List.mem_map.mpr ⟨n, hn, rfl⟩)⟩
    · obtain ⟨n, hn, rfl⟩ := List.mem_map.mp hp
      exact says.empty _ hn
    · obtain ⟨n, hn, rfl⟩ := List.mem_map.mp hp
      exact says.out _ hn
    · obtain ⟨n, hn, rfl⟩ := List.mem_map.mp hp
      exact PySem.W.codeHd_of_K kin (says.hd _ hn)
    · obtain ⟨x, hx, rfl⟩ := List.mem_map.mp hp
      exact tb _ (List.mem_map.mpr ⟨x.1, (show x.1 ∈ BW.lamL.map (·.1) from List.mem_map.mpr ⟨x, hx, rfl⟩), rfl⟩)

