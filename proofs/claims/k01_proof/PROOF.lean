import PyProof.Rows.All
import Wide.All
import OpenK.AllK
import Wide.FinOn
import HandS.ForMost
import HandS.TupAny
import HandS.TupMul
import HandS.Conv
import HandS.Wide
import HandS.Style
import HandS.HeadHook1
import HandS.Lambda
import HandS.IsInst
import HandS.Zip
import HandS.Dict
import KE.GoesEnum
import OpenK.KOps
import HandS.List
import HandS.Ends
import HandS.HeadEnd
import HandS.Exc
import HandS.ExcOwn
import HandS.CallSlots
import HandS.WordsExc
import KE.KExcInit
import KE.KTryMore
import KE.KExcIs
import HandS.ExcIs
import HandS.ExcField
import KE.SortData
import HandS.Text
import HandS.More
import HandS.HeadHook3
import HandS.NoneIn
import HandS.EndTab
import HandS.HeadHook4
import HandS.Star
import HandS.Small
import HandS.Iter
import HandS.OwnEq
import PyProof.InstNe
import HandS.ExcValue
import KE.SortKeyHeap
import KE.KSortKey
import KE.BitLaws
import HandS.Codes
import PySem.Challenge.RW_bondwords_k01_bonds_made
import KE.KStateDown
import HandS.Head0
import HandS.Head1
import HandS.Head2
namespace DL
end DL
namespace L2
end L2
namespace PySem
end PySem
section
set_option Elab.async false
set_option linter.all false
set_option maxRecDepth 100000
namespace DL
open PySem L2
open PySem.W (Frag)
def wo (H : Hp) (X : List Addr) : Hp := fun a => if a ∈ X then none else match H a with
  | some (.tbl _) => none
  | o => o
end DL
set_option maxHeartbeats 2000000
set_option maxHeartbeats 1000000
set_option maxHeartbeats 1000000
set_option maxHeartbeats 1000000
set_option maxHeartbeats 1000000
set_option maxHeartbeats 1000000
set_option maxHeartbeats 1000000
namespace DL
open PySem PySem.Spec PyProof.Rows L2
open PySem.W (Frag)
def exkB (K : Frag) (C : Addr) : Bool := xfB K C && ((PySem.W.clsIn K C).isSome && (decide (PySem.W.findIn K (.ref C) "__class__" = some (some (.builtin "object.__class__"))) && (decide (PySem.W.specialIn K (.builtin "object.__class__") "__get__" = some (some (.builtin "getset_descriptor.__get__"))) &&
  (decide (PySem.W.takesIn K (.builtin "object.__class__") = some true) && decide (PySem.W.mroIn K C (.type "object") = some true)))))
end DL
set_option maxHeartbeats 1000000
set_option maxHeartbeats 1000000
set_option maxHeartbeats 1000000
set_option maxHeartbeats 1000000
set_option maxHeartbeats 1000000
set_option maxHeartbeats 1000000
set_option maxHeartbeats 1000000
set_option maxHeartbeats 1000000
set_option maxHeartbeats 1000000
set_option maxHeartbeats 1000000
set_option autoImplicit false
set_option maxHeartbeats 1000000
namespace BW
open PySem L2 DL
abbrev N7 : List PySem.Str := ["BadBonds", "BadWord", "BadRow", "BadDeed", "BadNumber", "Unlike", "TooGreat"]
abbrev F6 : List (PySem.Str × PySem.Str) := [("BadBonds", "place"), ("BadWord", "place"), ("BadRow", "value"), ("BadDeed", "place"), ("BadNumber", "value"), ("TooGreat", "most")]
abbrev NU : List PySem.Str := ["BadBonds", "TooGreat"]
def xallB (K : PySem.W.Frag) : Bool := NU.all (fun n => exkB K (He.ga K n)) && ((F6.filter fun p => NU.contains p.1).all (fun p => decide (PySem.W.findIn K (.ref (He.ga K p.1)) p.2 = some none)) && NU.all (fun n => N7.all fun d => decide (PySem.W.kitOne K (.ref (He.ga K n)) (.ref (He.ga K d)) = some (decide (n = d)))))
end BW
set_option maxHeartbeats 1000000
set_option maxHeartbeats 1000000
set_option maxHeartbeats 1000000
namespace BW
open PySem L2 DL
abbrev T6N : List PySem.Str := NU
end BW
set_option maxHeartbeats 1000000
set_option maxHeartbeats 1000000
set_option maxHeartbeats 1000000
set_option maxHeartbeats 1000000
set_option maxHeartbeats 1000000
set_option maxHeartbeats 1000000
set_option maxHeartbeats 1000000
set_option maxHeartbeats 1000000
set_option maxHeartbeats 1000000
namespace BW
open PySem L2 DL
open PySem.W (Frag)
def tupIs (K : Frag) (v : Value) (ns : List Int) : Bool := match v with
  | .ref b => (match K.lookup b with
    | some ⟨.type c, _, .seq its _, _⟩ => decide (c = "tuple") && (decide (its.size ≤ sizeLine) && He.relAll (ns.map V.int) its.toList)
    | _ => false)
  | _ => false
def entB (K : Frag) : List DictEntry → List (Int × List Int) → Bool
  | [], [] => true
  | e :: es, (k, ns) :: r => (match e.key with | .int j _ => decide (j = k) && decide (e.hash = hashInt k) | _ => false) && (tupIs K e.val ns && entB K es r)
  | _, _ => false
def kdB (K : Frag) (x : PySem.Str) (kvs : List (Int × List Int)) : Bool := match K.lookup (He.ga K x) with
  | some ⟨.type c, none, .dict es _, sl⟩ => decide (c = "dict") && (sl.isEmpty && (!(He.ga K x == sysModules) && entB K es.toList kvs))
  | _ => false
end BW
set_option maxHeartbeats 1000000
namespace BW
open PySem L2 DL
open PySem.W (Frag)
abbrev bmV : List Value := [.type "ValueError", .type "Exception", .type "BaseException", .type "object"]
abbrev bmO : List Value := [.type "OverflowError", .type "ArithmeticError", .type "Exception", .type "BaseException", .type "object"]
def txtB (K : Frag) (x f : PySem.Str) (bm : List Value) (newId : String) : Bool :=
  PySem.W.excInitIn K (He.ga K x) bm newId && (PySem.W.excOver K (He.ga K x) bm && (decide (PySem.W.takerIn K (He.ga K x) f = some none) && (PySem.W.hasDictIn K (He.ga K x) && (decide (PySem.W.findIn K (.ref (He.ga K x)) "__setattr__" = some (some (.builtin "object.__setattr__"))) &&
  (decide (PySem.W.findIn K (.ref (He.ga K x)) "__init__" = some (some (.ref (He.fAd K (x, some "__init__"))))) && (decide (PySem.W.typeIn K (.ref (He.fAd K (x, some "__init__"))) = some (.type "function")) && (PySem.W.keepIn K (.ref (He.ga K x)) &&
  (decide (PySem.W.subIn K (.ref (He.ga K x)) (.type "BaseException") = some true) && decide (PySem.W.typeIn K (.ref (He.ga K x)) = some (.type "type"))))))))))
def exmB (K : Frag) : Bool := T6N.all fun n => decide (PySem.W.exmAny K (.ref (He.ga K n)) [.ref (He.ga K "BondError"), .ref (He.ga K "TooGreat")] = some true)
end BW
set_option maxHeartbeats 1000000
set_option autoImplicit false
set_option autoImplicit false
set_option maxHeartbeats 1000000
set_option maxHeartbeats 1000000
set_option maxHeartbeats 1000000
set_option maxHeartbeats 1000000
set_option maxHeartbeats 1000000
set_option maxHeartbeats 1000000
set_option maxHeartbeats 1000000
set_option autoImplicit false
set_option maxHeartbeats 1000000
set_option maxHeartbeats 1000000
set_option autoImplicit false
set_option maxHeartbeats 1000000
set_option maxHeartbeats 1000000
set_option maxHeartbeats 1000000
set_option autoImplicit false
set_option maxHeartbeats 1000000
set_option maxHeartbeats 1000000
set_option maxHeartbeats 1000000
set_option maxHeartbeats 1000000
set_option maxHeartbeats 1000000
set_option maxHeartbeats 1000000
namespace DL
open PySem PySem.Spec PyProof.Rows L2
open PySem.W (Frag)
abbrev typN : List String := ["NoneType", "bool", "int", "str", "list", "tuple", "dict"]
abbrev typR : List String := ["NoneType", "int", "str", "list", "tuple", "dict"]
def ownB (K : Frag) (C f : Addr) : Bool := decide (PySem.W.findIn K (.ref C) "__class__" = some (some (.builtin "object.__class__"))) && (decide (PySem.W.specialIn K (.builtin "object.__class__") "__get__" = some (some (.builtin "getset_descriptor.__get__"))) &&
  (decide (PySem.W.takesIn K (.builtin "object.__class__") = some true) && (decide (PySem.W.mroIn K C (.type "object") = some true) && (decide (PySem.W.findIn K (.ref C) "__eq__" = some (some (.ref f))) && (PySem.W.isFn K (.ref f) &&
  (decide (PySem.W.findIn K (.ref C) "__ne__" = some (some (.builtin "object.__ne__"))) && (decide (PySem.W.kitOne K (.ref C) (.ref C) = some true) && (typN.all (fun T => decide (PySem.W.kitOne K (.type T) (.ref C) = some false)) &&
  (typR.all (fun T => decide (PySem.W.subIn K (.ref C) (.type T) = some false)) && typN.all (fun T => PySem.W.notFirst K C (.type T)))))))))))
end DL
set_option maxHeartbeats 1000000
set_option maxHeartbeats 1000000
set_option maxHeartbeats 1000000
set_option maxHeartbeats 1000000
set_option maxHeartbeats 1000000
set_option maxHeartbeats 1000000
set_option maxHeartbeats 1000000
set_option maxHeartbeats 1000000
set_option maxHeartbeats 1000000
set_option maxHeartbeats 1000000
set_option maxHeartbeats 1000000
set_option maxHeartbeats 1000000
set_option maxHeartbeats 1000000
set_option autoImplicit false
set_option maxHeartbeats 1000000
set_option autoImplicit false
set_option maxHeartbeats 1000000
set_option autoImplicit false
set_option maxHeartbeats 1000000
set_option autoImplicit false
set_option maxHeartbeats 1000000
set_option autoImplicit false
set_option maxHeartbeats 1000000
set_option maxHeartbeats 1000000
set_option maxHeartbeats 1000000
set_option maxHeartbeats 2000000
set_option maxHeartbeats 2000000
set_option maxHeartbeats 2000000
set_option maxHeartbeats 2000000
set_option maxHeartbeats 2000000
set_option maxHeartbeats 1000000
set_option maxHeartbeats 1000000
set_option maxHeartbeats 1000000
set_option maxHeartbeats 1000000
set_option maxHeartbeats 1000000
set_option maxHeartbeats 1000000
set_option maxHeartbeats 1000000
set_option maxHeartbeats 1000000
set_option maxHeartbeats 1000000
set_option maxHeartbeats 1000000
set_option maxHeartbeats 1000000
set_option maxHeartbeats 1000000
set_option maxHeartbeats 1000000
set_option maxHeartbeats 1000000
set_option maxHeartbeats 1000000
set_option maxHeartbeats 1000000
set_option maxHeartbeats 1000000
set_option maxHeartbeats 1000000
set_option maxHeartbeats 1000000
set_option maxHeartbeats 1000000
set_option maxHeartbeats 1000000
set_option maxHeartbeats 1000000
set_option maxHeartbeats 1000000
set_option maxHeartbeats 1000000
set_option maxHeartbeats 1000000
set_option maxHeartbeats 1000000
namespace BW
open PySem L2 DL
def top (i : Nat) : Stmt := PySem.Challenge.pw_bondwords_k01_bonds_made.main.body.getD i (.Pass ⟨0, 0, 0, 0⟩)
end BW
namespace BW
open PySem L2 DL
def memS (i j : Nat) : Stmt := match top i with
  | .ClassDef _ _ _ body .. => body.getD j (.Pass ⟨0, 0, 0, 0⟩)
  | _ => .Pass ⟨0, 0, 0, 0⟩
end BW
namespace BW
open PySem L2 DL
abbrev s_law : Stmt := top 35
abbrev lamQ : PySem.Str := (PyProof.Rows.envOfC "law" (defScope s_law) 0 0 .none).qual ++ "<lambda>"
end BW
namespace BW
open PySem L2 DL
abbrev dd (x : PySem.Str) (i : Nat) : He.DefD := ⟨(x, none), x, x, defArgs (top i), defBody (top i), defScope (top i), [], []⟩
abbrev dm (x m q : PySem.Str) (i j : Nat) : He.DefD := ⟨(x, some m), m, q, defArgs (memS i j), defBody (memS i j), defScope (memS i j), [], []⟩
def fn : List He.DefD := [dd "is_whole" 16, dd "can_stand" 19, dd "check_shape" 20, dd "check_table" 21, dd "weight_of" 22, dd "weights_from" 23, dd "_law_mixed" 26, dd "_law_folded" 27, dd "_law_draw" 28, dd "_law_begun" 29, dd "_law_table" 30, dd "_law_class" 31, dd "_law_told" 32, dd "_law_due" 33, dd "_law_spoiled" 34, dd "law" 35, dm "Bonds" "__init__" "Bonds.__init__" 24 0, dm "Bonds" "__len__" "Bonds.__len__" 24 1, dm "BadBonds" "__init__" "BadBonds.__init__" 3 0, dm "TooGreat" "__init__" "TooGreat.__init__" 9 0, dm "Bonds" "__eq__" "Bonds.__eq__" 24 2]
def fa : List He.Fa := [.glo "is_whole", .glo "can_stand", .glo "check_shape", .glo "check_table", .glo "weight_of", .glo "weights_from", .glo "_law_mixed", .glo "_law_folded", .glo "_law_draw", .glo "_law_begun", .glo "_law_table", .glo "_law_class", .glo "_law_told", .glo "_law_due", .glo "_law_spoiled", .glo "law", .free "isinstance", .free "int", .free "bool", .free "list", .free "tuple", .free "len", .free "range", .free "enumerate", .free "repr", .int "MOST_LETTERS" (6), .int "MOST_WORD" (60), .int "OWN_BOND" (1), .int "OWN_WEIGHT" (-2), .glo "Bonds", .cls "Bonds", .noat "Bonds" "table", .noat "Bonds" "weights", .mkr "Bonds", .meth "Bonds" "__len__", .glo "WEIGHTS", .glo "BondError", .glo "BadBonds", .glo "BadWord", .glo "BadRow", .glo "BadDeed", .glo "BadNumber", .glo "Unlike", .glo "TooGreat"]
def wts0 : List (Int × List Int) := [(2, [0, 0]), (3, [1, 1]), (4, [1, 2]), (6, [1, 3]), (0, [2, 2])]
def tabL : List He.Tab := []
abbrev lamL : List ((PySem.Str × Option PySem.Str) × PySem.Str) := [(("law", none), lamQ)]
abbrev tfL : List (PySem.Str × Option PySem.Str) := [("law", none)]
def ndB (K : PySem.W.Frag) : Bool := decide ((lamL.map fun x => (He.cT K x.1).2).Nodup)
def exB (K : PySem.W.Frag) : Bool := ownB K (He.ga K "Bonds") (He.fAd K ("Bonds", some "__eq__")) && (kdB K "WEIGHTS" wts0 && (ndB K && (xallB K && (exmB K && ((((txtB K "BadBonds" "place" bmV "ValueError.__new__" && (txtB K "TooGreat" "most" bmO "OverflowError.__new__" && (true))))))))))
abbrev R : PySem.W.OpenRow := PySem.W.OpenLaw.row PySem.Challenge.rw_bondwords_k01_bonds_made
abbrev hk : PySem.W.Hook := He.hookX 4 fa fn tabL tfL exB
def ob (s : PySem.W.SharedT) : He.AlX := He.obsX 4 fa fn tabL tfL exB (HandSHeadRun.getT s)
def names0 : List PySem.Str := ["_wall", "__name__", "BondError", "BadBonds", "BadWord", "BadRow", "BadDeed", "BadNumber", "Unlike", "TooGreat", "MOST_LETTERS", "MOST_WORD", "WEIGHTS", "OWN_BOND", "OWN_WEIGHT", "is_whole", "is_letter", "check_letters", "can_stand", "check_shape", "check_table", "weight_of", "weights_from", "Bonds", "_law_mixed", "_law_folded", "_law_draw", "_law_begun", "_law_table", "_law_class"]
def names1 : List PySem.Str := ["_law_told", "_law_due", "_law_spoiled"]
abbrev names : List PySem.Str := names0 ++ names1
end BW
set_option maxHeartbeats 0
namespace BW
open PySem PySem.Spec PyProof.Rows L2
abbrev PR (w : World) : Prop := HandSHeadRun.RunEq R (PySem.W.view R.prog [35]) hk ob 6000 names w
theorem run0 (w : World) : PR (w.withFollow "special-get-raises" false) := fun os => by kernel_rfl
theorem run1 (w : World) : PR (w.withFollow "special-get-raises" true) := fun os => by kernel_rfl
end BW
open PySem PySem.W PyProof.Rows
end
set_option Elab.async false
set_option linter.all false
set_option maxRecDepth 100000
namespace DL
open PySem L2
open PySem.W (Frag)
inductive D where
  | non | bl (b : Bool) | int (i : Int) | str (x : PySem.Str)
  | lst (xs : List D) | tup (xs : List D) | dic | ins (C : Addr) (ns : List PySem.Str) (xs : List D)
  | exc (n : PySem.Str) (ns : List PySem.Str) (xs : List D)
def xob (a : Addr) (cls : Value) (dd : Option Addr) : HO := .ext fun h => ∃ oe vs, h.get? a = some oe ∧ (oe.cls = cls ∧ oe.dict = dd) ∧ oe.data = .fields vs
def ExF (H : Hp) (dd : Option Addr) (ns : List PySem.Str) (vs : List V) : Prop := (ns = [] ∧ dd = none) ∨ ∃ d, dd = some d ∧ H d = some (.xd (ns.zip vs))
mutual
inductive Rl (K : Frag) (H : Hp) : V → D → Prop
  | non : Rl K H .non .non
  | bl (b : Bool) : Rl K H (.bl b) (.bl b)
  | int (i : Int) : Rl K H (.int i) (.int i)
  | str (x : PySem.Str) : Rl K H (.str x) (.str x)
  | lst {a : Addr} {vs : List V} {ds : List D} : H a = some (.lst vs) → RlA K H vs ds → Rl K H (.ref a) (.lst ds)
  | tup {a : Addr} {vs : List V} {ds : List D} : SqT K H a vs → RlA K H vs ds → Rl K H (.ref a) (.tup ds)
  | dic {a : Addr} : H a = some (.dK []) → Rl K H (.ref a) .dic
  | ins {a C dx : Addr} {ns : List PySem.Str} {vs : List V} {ds : List D} : H a = some (.ins C dx (ns.zip vs)) → ns.length = vs.length → RlA K H vs ds → Rl K H (.ref a) (.ins C ns ds)
  | exc {a : Addr} {n : PySem.Str} {dd : Option Addr} {ns : List PySem.Str} {vs : List V} {ds : List D} : H a = some (xob a (.ref (He.ga K n)) dd) → ExF H dd ns vs → ns.length = vs.length → RlA K H vs ds → Rl K H (.ref a) (.exc n ns ds)
inductive RlA (K : Frag) (H : Hp) : List V → List D → Prop
  | nil : RlA K H [] []
  | cons {v : V} {vs : List V} {d : D} {ds : List D} : Rl K H v d → RlA K H vs ds → RlA K H (v :: vs) (d :: ds)
end
def Sub (A B : Hp) : Prop := ∀ a o, A a = some o → B a = some o
theorem Sub.refl (A : Hp) : Sub A A := fun _ _ h => h
theorem Sub.trans {A B C : Hp} (x : Sub A B) (y : Sub B C) : Sub A C := fun a o h => y a o (x a o h)
theorem Sub.rd {A B : Hp} (x : Sub A B) {a : Addr} {u : HO} (h : Rd A a u) : Rd B a u := by
  rcases h with h | ⟨o, h⟩
  · exact .inl (x _ _ h)
  · exact .inr ⟨o, x _ _ h⟩
theorem Sub.sl {K : Frag} {A B : Hp} (x : Sub A B) {a : Addr} {vs : List V} (h : SqL K A a vs) : SqL K B a vs := by
  rcases h with h | h
  · exact .inl (x.rd h)
  · exact .inr h
theorem Sub.st {K : Frag} {A B : Hp} (x : Sub A B) {a : Addr} {vs : List V} (h : SqT K A a vs) : SqT K B a vs := by
  rcases h with h | h
  · exact .inl (x.rd h)
  · exact .inr h
theorem ExF.mono {A B : Hp} (x : Sub A B) {dd : Option Addr} {ns : List PySem.Str} {vs : List V} (h : ExF A dd ns vs) : ExF B dd ns vs := h.imp id fun ⟨d, e, q⟩ => ⟨d, e, x _ _ q⟩
mutual
theorem Rl.mono {K : Frag} {A B : Hp} (x : Sub A B) : ∀ {v : V} {d : D}, Rl K A v d → Rl K B v d
  | _, _, .non => .non
  | _, _, .bl b => .bl b
  | _, _, .int i => .int i
  | _, _, .str s => .str s
  | _, _, .lst h r => .lst (x _ _ h) (RlA.mono x r)
  | _, _, .tup h r => .tup (x.st h) (RlA.mono x r)
  | _, _, .dic h => .dic (x _ _ h)
  | _, _, .ins h l r => .ins (x _ _ h) l (RlA.mono x r)
  | _, _, .exc h f l r => .exc (x _ _ h) (f.mono x) l (RlA.mono x r)
theorem RlA.mono {K : Frag} {A B : Hp} (x : Sub A B) : ∀ {vs : List V} {ds : List D}, RlA K A vs ds → RlA K B vs ds
  | _, _, .nil => .nil
  | _, _, .cons h r => .cons (Rl.mono x h) (RlA.mono x r)
end
theorem RlA.len {K : Frag} {A : Hp} : ∀ {vs : List V} {ds : List D}, RlA K A vs ds → vs.length = ds.length
  | _, _, .nil => rfl
  | _, _, .cons _ r => congrArg (· + 1) (RlA.len r)
theorem RlA.getD {K : Frag} {A : Hp} : ∀ {vs : List V} {ds : List D} {i : Nat} {d : D}, RlA K A vs ds → ds[i]? = some d → ∃ v, vs[i]? = some v ∧ Rl K A v d
  | _, _, _, _, .nil, e => by simp at e
  | _, _, 0, _, .cons h _, e => by simp at e; subst e; exact ⟨_, rfl, h⟩
  | _, _, i + 1, d, .cons _ r, e => by
    obtain ⟨v, h1, h2⟩ := RlA.getD (i := i) (d := d) r (by simpa using e)
    exact ⟨v, by simpa using h1, h2⟩
theorem RlA.app {K : Frag} {A : Hp} : ∀ {vs us : List V} {ds es : List D}, RlA K A vs ds → RlA K A us es → RlA K A (vs ++ us) (ds ++ es)
  | _, _, _, _, .nil, s => s
  | _, _, _, _, .cons h r, s => .cons h (RlA.app r s)
theorem RlA.take {K : Frag} {A : Hp} : ∀ {vs : List V} {ds : List D} (n : Nat), RlA K A vs ds → RlA K A (vs.take n) (ds.take n)
  | _, _, 0, _ => .nil
  | _, _, _ + 1, .nil => .nil
  | _, _, n + 1, .cons h r => .cons h (RlA.take n r)
theorem RlA.drop {K : Frag} {A : Hp} : ∀ {vs : List V} {ds : List D} (n : Nat), RlA K A vs ds → RlA K A (vs.drop n) (ds.drop n)
  | _, _, 0, r => r
  | _, _, _ + 1, .nil => .nil
  | _, _, n + 1, .cons _ r => RlA.drop n r
theorem RlA.set {K : Frag} {A : Hp} {v : V} {d : D} (h : Rl K A v d) : ∀ {vs : List V} {ds : List D} (i : Nat), RlA K A vs ds → RlA K A (vs.set i v) (ds.set i d)
  | _, _, _, .nil => .nil
  | _, _, 0, .cons _ r => .cons h r
  | _, _, i + 1, .cons q r => .cons q (RlA.set h i r)
theorem RlA.ints {K : Frag} {A : Hp} : ∀ (ns : List Int), RlA K A (ns.map V.int) (ns.map D.int)
  | [] => .nil
  | n :: r => .cons (.int n) (RlA.ints r)
theorem RlA.ints_v {K : Frag} {A : Hp} : ∀ {ns : List Int} {vs : List V}, RlA K A vs (ns.map D.int) → vs = ns.map V.int
  | [], _, .nil => rfl
  | n :: r, _, .cons h q => by
    cases h
    rw [RlA.ints_v q]
    rfl
def NoTb (o : HO) : Prop := ∀ ps, o ≠ .tbl ps
theorem wo_all {H : Hp} {X : List Addr} {a : Addr} {o : HO} (h : wo H X a = some o) : a ∉ X ∧ H a = some o ∧ NoTb o := by
  unfold wo at h
  split at h
  · cases h
  · refine ⟨by assumption, ?_⟩
    split at h
    · cases h
    · rename_i n
      refine ⟨h, fun ps e => ?_⟩
      subst e
      exact n _ h
theorem wo_sub (H : Hp) (X : List Addr) : Sub (wo H X) H := fun a o h => (wo_all h).2.1
theorem wo_ne {H : Hp} {X : List Addr} {a : Addr} {o : HO} (h : wo H X a = some o) : a ∉ X ∧ H a = some o := ⟨(wo_all h).1, (wo_all h).2.1⟩
theorem wo_tb {H : Hp} {X : List Addr} {a : Addr} {o : HO} (h : wo H X a = some o) : NoTb o := (wo_all h).2.2
theorem wo_of {H : Hp} {X : List Addr} {a : Addr} {o : HO} (hx : a ∉ X) (h : H a = some o) (ht : NoTb o := by first | (intro _ z; cases z; done) | exact wo_tb (by assumption)) : wo H X a = some o := by
  unfold wo
  rw [if_neg hx, h]
  cases o <;> first | rfl | exact absurd rfl (ht _)
structure TbK (A B : Hp) : Prop where
  tabs : ∀ T, LamX.Tabs T A → LamX.Tabs T B
  tbl : ∀ p ps, A p = some (.tbl ps) → ∃ qs, B p = some (.tbl qs)
theorem TbK.refl {A : Hp} : TbK A A := ⟨fun _ h => h, fun _ _ h => ⟨_, h⟩⟩
theorem TbK.trans {A B C : Hp} (x : TbK A B) (y : TbK B C) : TbK A C := ⟨fun T h => y.tabs T (x.tabs T h), fun p ps h => by
  obtain ⟨qs, e⟩ := x.tbl p ps h
  exact y.tbl p qs e⟩
theorem TbK.of {A B : Hp} (h : ∀ a o, A a = some o → (∃ ps, o = .tbl ps) ∨ (∃ q, o = LamX.CodeO a q) → B a = some o) : TbK A B := ⟨fun T t p hp => by
  obtain ⟨ps, h1, h2, h3⟩ := t p hp
  refine ⟨ps, h _ _ h1 (.inl ⟨_, rfl⟩), h2, fun pos cv hc => ?_⟩
  obtain ⟨c, e1, e2⟩ := h3 pos cv hc
  exact ⟨c, e1, h _ _ e2 (.inr ⟨_, rfl⟩)⟩, fun p ps e => ⟨ps, h _ _ e (.inl ⟨_, rfl⟩)⟩⟩
theorem TbK.upd {H : Hp} {p : Addr} {o : HO} (h : ∀ u, H p = some u → ¬ ((∃ ps, u = .tbl ps) ∨ ∃ q, u = LamX.CodeO p q)) : TbK H (upd H p o) := .of fun a u e k => by
  by_cases z : a = p
  · subst z; exact absurd k (h u e)
  · rw [upd_ne z]; exact e
theorem TbK.new {H : Hp} {p : Addr} {o : HO} (h : H p = none) : TbK H (L2.upd H p o) := .upd fun u e => by rw [h] at e; cases e
theorem TbK.at_ {H : Hp} {p : Addr} {o u : HO} (h : H p = some u) (h1 : NoTb u := by intro _ z; cases z) (h2 : ∀ q, u ≠ LamX.CodeO p q := by intro _ z; cases z) : TbK H (L2.upd H p o) := .upd fun v e => by
  rw [h] at e; cases e
  rintro (⟨ps, z⟩ | ⟨q, z⟩)
  · exact h1 _ z
  · exact h2 _ z
theorem wo_more {H : Hp} {X Y : List Addr} (h : ∀ a ∈ X, a ∈ Y) : Sub (wo H Y) (wo H X) := fun a o e => by
  obtain ⟨n, e⟩ := wo_ne e
  exact wo_of (fun z => n (h a z)) e
theorem wo_new {H : Hp} {X : List Addr} {p : Addr} {o : HO} (hp : H p = none) : Sub (wo H X) (wo (upd H p o) X) := fun a u e => by
  obtain ⟨n, e⟩ := wo_ne e
  exact wo_of n (by rw [upd_ne (ne_of_none e hp)]; exact e)
theorem wo_mut {H : Hp} {X : List Addr} {p : Addr} {o : HO} (hp : p ∈ X) : Sub (wo H X) (wo (upd H p o) X) := fun a u e => by
  obtain ⟨n, e⟩ := wo_ne e
  exact wo_of n (by rw [upd_ne (fun z => n (by rw [z]; exact hp))]; exact e)
structure Mc where
  (pm pc pg : Addr)
  T : List (Addr × PySem.Str)
def Ml : Option Mc → List Addr
  | none => []
  | some m => [m.pm, m.pc, m.pg]
structure MOk (m : Mc) (H : Hp) (cs gs : List Int) (n : Nat) : Prop where
  hm : H m.pm = some (.dK [(Sum.inr "cells", .ref m.pc), (Sum.inr "great", .ref m.pg), (Sum.inr "spot", .int n)])
  hc : H m.pc = some (.lst (cs.map V.int))
  hg : H m.pg = some (.lst (gs.map V.int))
  lc : cs.length = 64
  bc : ∀ x ∈ cs, 0 ≤ x ∧ x < 2147483647
  lg : gs.length ≤ 63
  bg : ∀ x ∈ gs, 0 ≤ x
def MAt (m : Option Mc) (H : Hp) (k : Nat) : Prop := match m with
  | none => True
  | some m => ∃ cs gs n, MOk m H cs gs n ∧ n ≤ k ∧ LamX.Tabs m.T H
theorem MAt.mono {m : Option Mc} {H : Hp} {j k : Nat} (h : MAt m H j) (l : j ≤ k) : MAt m H k := by
  cases m with
  | none => trivial
  | some m =>
    obtain ⟨cs, gs, n, o, q⟩ := h
    exact ⟨cs, gs, n, o, Nat.le_trans q.1 l, q.2⟩
theorem MAt.eq {m : Option Mc} {H H' : Hp} {k : Nat} (h : MAt m H k) (e : ∀ a ∈ Ml m, H a ≠ none → H' a = H a) (t : TbK H H') : MAt m H' k := by
  cases m with
  | none => trivial
  | some m =>
    obtain ⟨cs, gs, n, o, q⟩ := h
    have e1 := e m.pm (by simp [Ml]) (by rw [o.hm]; simp)
    have e2 := e m.pc (by simp [Ml]) (by rw [o.hc]; simp)
    have e3 := e m.pg (by simp [Ml]) (by rw [o.hg]; simp)
    exact ⟨cs, gs, n, ⟨e1.trans o.hm, e2.trans o.hc, e3.trans o.hg, o.lc, o.bc, o.lg, o.bg⟩, q.1, t.tabs _ q.2⟩
theorem MAt.there {m : Option Mc} {H : Hp} {k : Nat} (h : MAt m H k) : ∀ a ∈ Ml m, H a ≠ none := by
  cases m with
  | none => intro a ha; simp [Ml] at ha
  | some m =>
    obtain ⟨cs, gs, n, o, q⟩ := h
    intro a ha
    simp [Ml] at ha
    rcases ha with rfl | rfl | rfl
    · rw [o.hm]; simp
    · rw [o.hc]; simp
    · rw [o.hg]; simp
inductive Sl where
  | no | dat (d : D) | own (p : Addr) (ds : List D) | mst | scr (ns : List Int)
structure S where
  X : List Addr
  sl : List Sl
  k : Nat
structure C where
  K : Frag
  M : Option Mc
  X0 : List Addr
  H0 : Hp
  ow : List Nat := []
abbrev C.hid (c : C) (X : List Addr) (H : Hp) : Hp := wo H (Ml c.M ++ X)
def SlOk (c : C) (X : List Addr) (H : Hp) (x : Option (Option V)) : Sl → Prop
  | .no => True
  | .dat d => ∃ v, x = some (some v) ∧ Rl c.K (c.hid X H) v d
  | .own p ds => x = some (some (.ref p)) ∧ p ∈ X ∧ p ∉ c.X0 ∧ c.H0 p = none ∧ ∃ vs, H p = some (.lst vs) ∧ RlA c.K (c.hid X H) vs ds
  | .mst => ∃ m, c.M = some m ∧ x = some (some (.ref m.pm))
  | .scr ns => ∃ a, x = some (some (.ref a)) ∧ SqL c.K (c.hid X H) a (ns.map V.int)
structure Rep (c : C) (s : S) (σ : L2.St) (H : Hp) : Prop where
  sub : Sub (c.hid c.X0 c.H0) (c.hid s.X H)
  old : ∀ a ∈ c.X0, a ∉ Ml c.M → c.H0 a ≠ none → H a = c.H0 a
  x0 : ∀ a ∈ c.X0, a ∈ s.X
  xm : ∀ a ∈ s.X, a ∉ Ml c.M
  xs : ∀ a ∈ s.X, H a ≠ none
  m : MAt c.M H s.k
  slot : ∀ (i : Nat) (x : Sl), s.sl[i]? = some x → SlOk c s.X H σ[i]? x
  apart : ∀ (i j : Nat) (p q : Addr) (ds es : List D), s.sl[i]? = some (.own p ds) → s.sl[j]? = some (.own q es) → i ≠ j → p ≠ q
  len : s.sl.length = σ.length
  tb : TbK c.H0 H
  xt : ∀ a ∈ s.X, ∀ ps, H a ≠ some (.tbl ps)
def Adv (c : C) (s : S) (H : Hp) (s' : S) (H' : Hp) : Prop := Sub (c.hid s.X H) (c.hid s'.X H')
theorem Adv.refl {c : C} {s : S} {H : Hp} : Adv c s H s H := Sub.refl _
abbrev S.at (s : S) (k : Nat) : S := { s with k := k }
theorem Rep.more {c : C} {s : S} {σ : L2.St} {H : Hp} {k : Nat} (r : Rep c s σ H) (h : s.k ≤ k) : Rep c (s.at k) σ H := ⟨r.sub, r.old, r.x0, r.xm, r.xs, r.m.mono h, r.slot, r.apart, r.len, r.tb, r.xt⟩
theorem Rep.step {c : C} {s : S} {σ : L2.St} {H H' : Hp} {k : Nat} (r : Rep c s σ H) (a : Sub (c.hid s.X H) (c.hid s.X H')) (x : ∀ a ∈ s.X, H a ≠ none → H' a = H a) (m : MAt c.M H' k) (tb : TbK c.H0 H') : Rep c (s.at k) σ H' := by
  refine ⟨r.sub.trans a, fun b hb hm hn => ?_, r.x0, r.xm, fun b hb => ?_, m, fun i y e => ?_, r.apart, r.len, tb, fun b hb => by rw [x b hb (r.xs b hb)]; exact r.xt b hb⟩
  · rw [x b (r.x0 b hb) (r.xs b (r.x0 b hb)), r.old b hb hm hn]
  · rw [x b hb (r.xs b hb)]; exact r.xs b hb
  · have q := r.slot i y e
    cases y with
    | no => trivial
    | dat d =>
      obtain ⟨v, e, h⟩ := q
      exact ⟨v, e, h.mono a⟩
    | own p ds =>
      obtain ⟨e, h1, h2, h3, vs, h4, h5⟩ := q
      exact ⟨e, h1, h2, h3, vs, by rw [x p h1 (r.xs p h1)]; exact h4, h5.mono a⟩
    | mst => exact q
    | scr ns =>
      obtain ⟨v, e, h⟩ := q
      exact ⟨v, e, a.sl h⟩
structure AdvE (c : C) (X : List Addr) (H H' : Hp) : Prop where
  sub : Sub (c.hid X H) (c.hid X H')
  own : ∀ a ∈ X, H' a = H a
theorem AdvE.refl {c : C} {X : List Addr} {H : Hp} : AdvE c X H H := ⟨Sub.refl _, fun _ _ => rfl⟩
theorem AdvE.trans {c : C} {X : List Addr} {H H1 H2 : Hp} (a : AdvE c X H H1) (b : AdvE c X H1 H2) : AdvE c X H H2 := ⟨a.sub.trans b.sub, fun x h => (b.own x h).trans (a.own x h)⟩
theorem Rep.new {c : C} {s : S} {σ : L2.St} {H : Hp} {p : Addr} {o : HO} (r : Rep c s σ H) (hp : H p = none) : Rep c s σ (upd H p o) ∧ AdvE c s.X H (upd H p o) := by
  have a : Sub (c.hid s.X H) (c.hid s.X (upd H p o)) := wo_new hp
  have e : ∀ b, H b ≠ none → upd H p o b = H b := fun b h => upd_ne fun z => h (z ▸ hp)
  exact ⟨r.step (k := s.k) a (fun b _ h => e b h) (r.m.eq (fun b hb h => e b h) (.new hp)) (r.tb.trans (.new hp)), a, fun b hb => e b (r.xs b hb)⟩
theorem Rep.free {c : C} {s : S} {σ : L2.St} {H : Hp} {p : Addr} (r : Rep c s σ H) (hp : H p = none) : p ∉ Ml c.M ++ s.X := fun z => by
  rcases List.mem_append.mp z with z | z
  · exact r.m.there p z hp
  · exact r.xs p z hp
theorem Rep.at_new {c : C} {s : S} {σ : L2.St} {H : Hp} {p : Addr} {o : HO} (r : Rep c s σ H) (hp : H p = none) (ht : NoTb o := by intro _ z; cases z) : (c.hid s.X (upd H p o)) p = some o := wo_of (r.free hp) upd_same ht
end DL
namespace DL
open PySem L2
theorem tup_once (l : Addr) (its : Array Value) (n : Nat) (dd : Option Addr) (sl : Array (Option Value)) (u : Tok) :
    Meets (Builtin.«tuple.__mul__» ⟨[.ref l, .int 1 u], []⟩) (fun _ R s => s.heap.get? l = some { cls := .type "tuple", dict := dd, data := .seq its n, slots := sl } ∧ R (.ok (.ret (Value.ref l))) s) := by
  refine .of_wp fun P' w' A' R s' hh => ?_
  obtain ⟨hp, gg, dd', tt, oo⟩ := s'
  obtain ⟨hl, hR⟩ := hh
  have f1 := AutoSeq1.idx_int
  have c1 : (its.isEmpty || (1 : Int) == 1) = true := by rw [show ((1 : Int) == 1) = true from rfl, Bool.or_true]
  wp_walk using AutoSeq1.wpAny_loadPart' hl
  exact ⟨_, rfl, hR⟩
section
variable {X : Cx}
theorem op_rep1 : OpR X (binaryOp .Mult) (fun x y H Q => ∃ l xs, x = .ref l ∧ y = .int 1 ∧ SqT X.K H l xs ∧ Q (.ref l) H) := by
  intro pins s σ H x y v u Q I rx ry h
  obtain ⟨l, xs, rfl, rfl, hT, q⟩ := h
  cases rx
  obtain ⟨t, rfl⟩ := ry
  obtain ⟨its, r, ⟨⟨cls, dd, data, sl⟩, ho, hc, n, hd⟩, hs⟩ := I.tuple hT
  simp only at hc hd
  subst hc hd
  refine wpAny_binaryOp_repeat_ref (T := "tuple") (U := "int") (by decide) ⟨_, ho, rfl⟩ (fun s' => typeIs_int s' 1 t) noFill_tuple_mul F.fills_int_mul F.slot_int_rmul repeat_tuple F.slot_int_index.lookup ?_
  refine PySem.call_meets F.slot_int_rmul (typeIs_int s 1 t) F.entry_int_rmul (F.args_int_rmul_2 _ _) (int_rmul_tuple 1 t l its.toArray n dd sl) ⟨ho, rfl, ⟨_, ho, rfl⟩, ?_⟩
  refine PySem.call_meets F.slot_tuple_mul ⟨_, ho, rfl⟩ F.entry_tuple_mul (F.args_tuple_mul_2 _ _) (tup_once l its.toArray n dd sl t) ⟨ho, ?_⟩
  exact ⟨.ref l, H, I, rfl, q⟩
end
end DL
namespace L2
open PySem
section
variable {X : Cx}
theorem PE.weak {e : Expr} {t t' : TE} (h : PE X e t) (w : ∀ σ H Q, t' σ H Q → t σ H Q) : PE X e t' := ⟨fun p s σ H Q I q => h.run p s σ H Q I (w _ _ _ q)⟩
theorem PT.weak {e : Expr} {t t' : TT} (h : PT X e t) (w : ∀ σ H Q, t' σ H Q → t σ H Q) : PT X e t' := ⟨fun p s σ H Q I q => h.run p s σ H Q I (w _ _ _ q)⟩
theorem PW.weak {e : Expr} {t t' : TT} (h : PW X e t) (w : ∀ σ H Q, t' σ H Q → t σ H Q) : PW X e t' := ⟨fun x p s σ H Q I q => h.run x p s σ H Q I (w _ _ _ q)⟩
theorem PA.weak {e : List Expr} {t t' : TA} (h : PA X e t) (w : ∀ σ H Q, t' σ H Q → t σ H Q) : PA X e t' := ⟨fun x p s σ H Q I q => h.run x p s σ H Q I (w _ _ _ q)⟩
theorem PS.weak {e : Stmt} {t t' : TS} (h : PS X e t) (w : ∀ D σ H, t' D σ H → t D σ H) : PS X e t' := ⟨fun p s σ H D I q => h.run p s σ H D I (w _ _ _ q)⟩
theorem PSs.weak {e : List Stmt} {t t' : TS} (h : PSs X e t) (w : ∀ D σ H, t' D σ H → t D σ H) : PSs X e t' := ⟨fun p s σ H D I q => h.run p s σ H D I (w _ _ _ q)⟩
end
end L2
namespace DL
open PySem L2
open PySem.W (Frag)
abbrev DE := S → (D → Nat → Prop) → Prop
abbrev DT := S → (Bool → Nat → Prop) → Prop
abbrev DA := S → (List D → Nat → Prop) → Prop
def LE (c : C) (t : DE) : TE := fun σ H Q => ∃ s R, Rep c s σ H ∧ t s R ∧ ∀ d k, R d k → ∀ v H', Rep c (s.at k) σ H' → AdvE c s.X H H' → Rl c.K (c.hid s.X H') v d → Q v H'
def LT (c : C) (t : DT) : TT := fun σ H Q => ∃ s R, Rep c s σ H ∧ t s R ∧ ∀ b k, R b k → ∀ H', Rep c (s.at k) σ H' → AdvE c s.X H H' → Q b H'
def LA (c : C) (t : DA) : TA := fun σ H Q => ∃ s R, Rep c s σ H ∧ t s R ∧ ∀ ds k, R ds k → ∀ vs H', Rep c (s.at k) σ H' → AdvE c s.X H H' → RlA c.K (c.hid s.X H') vs ds → Q vs H'
abbrev dVar (i : Nat) : DE := fun s Q => ∃ d, s.sl[i]? = some (.dat d) ∧ Q d s.k
abbrev dC (d : D) : DE := fun s Q => Q d s.k
section
variable {X : Cx} {c : C}
theorem pd_var (i : Nat) {x : PySem.Str} {pos : Pos} (hN : X.N[i]? = some x := by rfl) (hv : Vis X.env.scope x := by first | exact Or.inl rfl | exact Or.inr (Or.inl rfl) | exact Or.inr (Or.inr rfl)) (hd : (x == ("__debug__" : PySem.Str)) = false := by decide)
    (hcd : (x == ("__classdict__" : PySem.Str)) = false := by decide) : PE X (.Name x pos) (LE c (dVar i)) := by
  refine (pe_var hN hv hd hcd).weak fun σ H Q ⟨s, R, r, ⟨d, e, q⟩, f⟩ => ?_
  obtain ⟨v, e1, h⟩ := r.slot i _ e
  exact ⟨v, e1, f _ _ q v H r AdvE.refl h⟩
theorem LE.const {v : V} {d : D} (h : ∀ H, Rl c.K H v d) (σ : L2.St) (H : Hp) (Q : VK) (x : LE c (dC d) σ H Q) : Q v H := by
  obtain ⟨s, R, r, q, f⟩ := x
  exact f _ _ q v H r AdvE.refl (h _)
theorem pd_int {i j pos} : PE X (.Constant (.int i) j pos) (LE c (dC (.int i))) := pe_int.weak fun σ H Q h => LE.const (fun _ => .int i) σ H Q h
theorem pd_bl {b j pos} : PE X (.Constant (.bool b) j pos) (LE c (dC (.bl b))) := pe_bl.weak fun σ H Q h => LE.const (fun _ => .bl b) σ H Q h
theorem pd_non {j pos} : PE X (.Constant .none j pos) (LE c (dC .non)) := pe_non.weak fun σ H Q h => LE.const (fun _ => .non) σ H Q h
theorem pd_str {x j pos} : PE X (.Constant (.str x) j pos) (LE c (dC (.str x))) := pe_str.weak fun σ H Q h => LE.const (fun _ => .str x) σ H Q h
theorem pd_globI {x : PySem.Str} {pos : Pos} {i : Int} {t : Tok} (hm : X.mg x = some (.int i t)) (hg : Gl X x := by rfl) (hd : (x == ("__debug__" : PySem.Str)) = false := by decide) : PE X (.Name x pos) (LE c (dC (.int i))) :=
  (pe_glob (v := .int i) hg hm ⟨t, rfl⟩ hd).weak fun σ H Q h => LE.const (fun _ => .int i) σ H Q h
end
abbrev O2 := D → D → (D → Prop) → Prop
def Wi (c : C) (s : S) (σ : L2.St) (H : Hp) (R : D → Prop) (Q : VK) : Prop := ∀ d, R d → ∀ v H', Rep c s σ H' → AdvE c s.X H H' → Rl c.K (c.hid s.X H') v d → Q v H'
def Fit2 (c : C) (r : R2) (o : O2) : Prop := ∀ (s : S) (σ : L2.St) (H : Hp) (x y : V) (a b : D) (R : D → Prop) (Q : VK), Rep c s σ H → Rl c.K (c.hid s.X H) x a → Rl c.K (c.hid s.X H) y b → o a b R → Wi c s σ H R Q → r x y H Q
abbrev dOp (o : O2) (a b : DE) : DE := fun s Q => a s fun x k => b (s.at k) fun y k' => o x y fun z => Q z k'
theorem LE.op {c : C} {r : R2} {o : O2} {a b : DE} (f : Fit2 c r o) (σ : L2.St) (H : Hp) (Q : VK) (h : LE c (dOp o a b) σ H Q) : tOp r (LE c a) (LE c b) σ H Q := by
  obtain ⟨s, R, rp, h, fin⟩ := h
  refine ⟨s, _, rp, h, fun x k h1 v H1 r1 a1 e1 => ?_⟩
  refine ⟨s.at k, _, r1, h1, fun y k2 h2 u H2 r2 a2 e2 => ?_⟩
  exact f (s.at k2) σ H2 v u x y _ Q r2 (e1.mono a2.sub) e2 h2 fun z hz w H3 r3 a3 e3 => fin z k2 hz w H3 r3 ((a1.trans a2).trans a3) e3
theorem Wi.same {c : C} {s : S} {σ : L2.St} {H : Hp} {R : D → Prop} {Q : VK} (w : Wi c s σ H R Q) (rp : Rep c s σ H) {d : D} {v : V} (h : R d) (e : Rl c.K (c.hid s.X H) v d) : Q v H := w d h v H rp AdvE.refl e
theorem Wi.lst {c : C} {s : S} {σ : L2.St} {H : Hp} {R : D → Prop} {Q : VK} (w : Wi c s σ H R Q) (rp : Rep c s σ H) {ds : List D} {vs : List V} (h : R (.lst ds)) (e : RlA c.K (c.hid s.X H) vs ds) : ∀ p, H p = none → Q (.ref p) (upd H p (.lst vs)) := fun p hp =>
  have n := rp.new (o := .lst vs) hp
  w _ h _ _ n.1 n.2 (.lst (rp.at_new hp) (e.mono n.2.sub))
theorem Wi.tup {c : C} {s : S} {σ : L2.St} {H : Hp} {R : D → Prop} {Q : VK} (w : Wi c s σ H R Q) (rp : Rep c s σ H) {ds : List D} {vs : List V} (h : R (.tup ds)) (e : RlA c.K (c.hid s.X H) vs ds) : ∀ p, H p = none → Q (.ref p) (upd H p (.tup vs)) := fun p hp =>
  have n := rp.new (o := .tup vs) hp
  w _ h _ _ n.1 n.2 (.tup (SqT.of (rp.at_new hp)) (e.mono n.2.sub))
theorem Rl.all {c : C} {s : S} {H : Hp} {v : V} {d : D} (h : Rl c.K (c.hid s.X H) v d) : Rl c.K H v d := h.mono (wo_sub _ _)
def lim : Nat := 1000000
theorem lim_le {n : Nat} (h : n ≤ lim) : n ≤ sizeLine := Nat.le_trans h (by decide)
theorem lim_lt {n : Nat} (h : n ≤ lim) : n < sizeLine := Nat.lt_of_le_of_lt h (by decide)
abbrev oAdd : O2 := fun x y Q => match x, y with
  | .int i, .int j => Q (.int (i + j))
  | .lst a, .lst b => a.length + b.length ≤ lim ∧ Q (.lst (a ++ b))
  | .tup a, .tup b => a.length + b.length ≤ lim ∧ Q (.tup (a ++ b))
  | _, _ => False
abbrev oSub : O2 := fun x y Q => match x, y with
  | .int i, .int j => Q (.int (i - j))
  | _, _ => False
abbrev oMul : O2 := fun x y Q => match x, y with
  | .int i, .int j => CMul i j ∧ Q (.int (i * j))
  | .lst a, .int k => 0 ≤ k ∧ k ≤ 1000 ∧ a.length * k.toNat ≤ lim ∧ Q (.lst (List.replicate k.toNat a).flatten)
  | .tup a, .int k => a ≠ [] ∧ 1 ≤ k ∧ k ≤ 1000 ∧ a.length ≤ 1000 ∧ Q (.tup (List.replicate k.toNat a).flatten)
  | _, _ => False
abbrev oDiv : O2 := fun x y Q => match x, y with
  | .int i, .int j => CDivW i j ∧ Q (.int (i / j))
  | _, _ => False
abbrev oMod : O2 := fun x y Q => match x, y with
  | .int i, .int j => 0 < j ∧ Q (.int (i % j))
  | _, _ => False
abbrev oPow : O2 := fun x y Q => match x, y with
  | .int i, .int j => CPow i j ∧ Q (.int (i ^ j.toNat))
  | _, _ => False
abbrev oLt : O2 := fun x y Q => match x, y with | .int i, .int j => Q (.bl (decide (i < j))) | _, _ => False
abbrev oGt : O2 := fun x y Q => match x, y with | .int i, .int j => Q (.bl (decide (j < i))) | _, _ => False
abbrev oGe : O2 := fun x y Q => match x, y with | .int i, .int j => Q (.bl (decide (j ≤ i))) | _, _ => False
abbrev oIs : O2 := fun x y Q => match x, y with
  | .non, .non => Q (.bl true)
  | .bl a, .bl b => Q (.bl (decide (a = b)))
  | _, .non => Q (.bl false)
  | _, _ => False
abbrev oNot (o : O2) : O2 := fun x y Q => o x y fun z => match z with | .bl b => Q (.bl (!b)) | _ => False
theorem Rl.lstE {K : Frag} {H : Hp} {v : V} {ds : List D} (h : Rl K H v (.lst ds)) : ∃ a vs, v = .ref a ∧ H a = some (.lst vs) ∧ RlA K H vs ds := by
  cases h with
  | lst h r => exact ⟨_, _, rfl, h, r⟩
theorem Rl.tupE {K : Frag} {H : Hp} {v : V} {ds : List D} (h : Rl K H v (.tup ds)) : ∃ a vs, v = .ref a ∧ SqT K H a vs ∧ RlA K H vs ds := by
  cases h with
  | tup h r => exact ⟨_, _, rfl, h, r⟩
theorem Rl.intE {K : Frag} {H : Hp} {v : V} {i : Int} (h : Rl K H v (.int i)) : v = .int i := by
  cases h; rfl
theorem Rl.blE {K : Frag} {H : Hp} {v : V} {i : Bool} (h : Rl K H v (.bl i)) : v = .bl i := by
  cases h; rfl
theorem Rl.nonE {K : Frag} {H : Hp} {v : V} (h : Rl K H v .non) : v = .non := by
  cases h; rfl
theorem RlA.repl {K : Frag} {A : Hp} {vs : List V} {ds : List D} (h : RlA K A vs ds) : ∀ n : Nat, RlA K A (List.replicate n vs).flatten (List.replicate n ds).flatten
  | 0 => .nil
  | n + 1 => by
    rw [List.replicate_succ, List.flatten_cons, List.replicate_succ, List.flatten_cons]
    exact h.app (RlA.repl h n)
section
variable {X : Cx} {c : C} (hK : c.K = X.K)
theorem fit_I {cond : Int → Int → Prop} {g : Int → Int → V} {o : O2} {go : Int → Int → D} (hg : ∀ i j H, Rl c.K H (g i j) (go i j))
    (h : ∀ x y R, o x y R → ∃ i j, x = .int i ∧ y = .int j ∧ cond i j ∧ R (go i j)) : Fit2 c (rI cond g) o := fun s σ H x y a b R Q rp hx hy ho w => by
  obtain ⟨i, j, rfl, rfl, hc, hr⟩ := h _ _ _ ho
  cases hx.intE
  cases hy.intE
  exact ⟨i, j, rfl, rfl, hc, w.same rp hr (hg i j _)⟩
theorem fit_I0 {g : Int → Int → V} {o : O2} {go : Int → Int → D} (hg : ∀ i j H, Rl c.K H (g i j) (go i j))
    (h : ∀ x y R, o x y R → ∃ i j, x = .int i ∧ y = .int j ∧ R (go i j)) : Fit2 c (rI0 g) o := fun s σ H x y a b R Q rp hx hy ho w => by
  obtain ⟨i, j, rfl, rfl, hr⟩ := h _ _ _ ho
  cases hx.intE
  cases hy.intE
  exact ⟨i, j, rfl, rfl, w.same rp hr (hg i j _)⟩
theorem fit_sub : Fit2 c (rI0 fun i j => .int (i - j)) oSub := fit_I0 (go := fun i j => .int (i - j)) (fun _ _ _ => .int _) (by (intro x y R h; cases x <;> first | exact h.elim | (cases y <;> first | exact h.elim | exact ⟨_, _, rfl, rfl, h⟩)))
theorem fit_div : Fit2 c (rI CDivW fun i j => .int (i / j)) oDiv := fit_I (go := fun i j => .int (i / j)) (fun _ _ _ => .int _) (by (intro x y R h; cases x <;> first | exact h.elim | (cases y <;> first | exact h.elim | exact ⟨_, _, rfl, rfl, h⟩)))
theorem fit_mod : Fit2 c (rI (fun _ j => 0 < j) fun i j => .int (i % j)) oMod := fit_I (go := fun i j => .int (i % j)) (fun _ _ _ => .int _) (by (intro x y R h; cases x <;> first | exact h.elim | (cases y <;> first | exact h.elim | exact ⟨_, _, rfl, rfl, h⟩)))
theorem fit_pow : Fit2 c (rI CPow fun i j => .int (i ^ j.toNat)) oPow := fit_I (go := fun i j => .int (i ^ j.toNat)) (fun _ _ _ => .int _) (by (intro x y R h; cases x <;> first | exact h.elim | (cases y <;> first | exact h.elim | exact ⟨_, _, rfl, rfl, h⟩)))
theorem fit_lt : Fit2 c (rI0 fun i j => .bl (decide (i < j))) oLt := fit_I0 (go := fun i j => .bl (decide (i < j))) (fun _ _ _ => .bl _) (by (intro x y R h; cases x <;> first | exact h.elim | (cases y <;> first | exact h.elim | exact ⟨_, _, rfl, rfl, h⟩)))
theorem fit_gt : Fit2 c (rI0 fun i j => .bl (decide (j < i))) oGt := fit_I0 (go := fun i j => .bl (decide (j < i))) (fun _ _ _ => .bl _) (by (intro x y R h; cases x <;> first | exact h.elim | (cases y <;> first | exact h.elim | exact ⟨_, _, rfl, rfl, h⟩)))
theorem fit_ge : Fit2 c (rI0 fun i j => .bl (decide (j ≤ i))) oGe := fit_I0 (go := fun i j => .bl (decide (j ≤ i))) (fun _ _ _ => .bl _) (by (intro x y R h; cases x <;> first | exact h.elim | (cases y <;> first | exact h.elim | exact ⟨_, _, rfl, rfl, h⟩)))
include hK in
theorem fit_add : Fit2 c (fun x y H Q => rI0 (fun i j => .int (i + j)) x y H Q ∨ (fun x y H Q => rCat x y H Q ∨ rCatA X.K x y H Q) x y H Q) oAdd := fun s σ H x y a b R Q rp hx hy ho w => by
  cases a <;> first
    | exact ho.elim
    | (cases b <;> first
        | exact ho.elim
        | (cases hx.intE; cases hy.intE; exact .inl ⟨_, _, rfl, rfl, w.same rp ho (.int _)⟩)
        | (obtain ⟨p, vs, rfl, h1, r1⟩ := Rl.lstE hx
           obtain ⟨q, us, rfl, h2, r2⟩ := Rl.lstE hy
           refine .inr (.inl ⟨p, q, vs, us, rfl, rfl, wo_sub _ _ _ _ h1, wo_sub _ _ _ _ h2, ?_, w.lst rp ho.2 (r1.app r2)⟩)
           rw [r1.len, r2.len]
           exact lim_le ho.1)
        | (obtain ⟨p, vs, rfl, h1, r1⟩ := Rl.tupE hx
           obtain ⟨q, us, rfl, h2, r2⟩ := Rl.tupE hy
           refine .inr (.inr ⟨p, q, vs, us, rfl, rfl, hK ▸ (wo_sub _ _).st h1, hK ▸ (wo_sub _ _).st h2, ?_, fun e => ?_, fun _ e => ?_, fun _ _ => w.tup rp ho.2 (r1.app r2)⟩)
           · rw [r1.len, r2.len]
             exact lim_le ho.1
           · subst e
             cases r1
             exact w.same rp ho.2 hy
           · subst e
             cases r2
             refine w.same rp ho.2 ?_
             rw [List.append_nil]
             exact hx))
include hK in
theorem fit_mul : Fit2 c (fun x y H Q => rI CMul (fun i j => .int (i * j)) x y H Q ∨ (fun x y H Q => rRep x y H Q ∨ (fun x y H Q => rRepT X.K x y H Q ∨ (fun x y H Q => ∃ l xs, x = .ref l ∧ y = .int 1 ∧ SqT X.K H l xs ∧ Q (.ref l) H) x y H Q) x y H Q) x y H Q) oMul := fun s σ H x y a b R Q rp hx hy ho w => by
  cases a <;> first
    | exact ho.elim
    | (cases b <;> first
        | exact ho.elim
        | (cases hx.intE; cases hy.intE; exact .inl ⟨_, _, rfl, rfl, ho.1, w.same rp ho.2 (.int _)⟩)
        | (obtain ⟨p, vs, rfl, h1, r1⟩ := Rl.lstE hx
           cases hy.intE
           obtain ⟨h0, h9, hl, hR⟩ := ho
           refine .inr (.inl ⟨p, _, vs, rfl, rfl, wo_sub _ _ _ _ h1, by omega, by omega, ?_, w.lst rp hR (r1.repl _)⟩)
           rw [r1.len]
           exact lim_le hl)
        | (obtain ⟨p, vs, rfl, h1, r1⟩ := Rl.tupE hx
           cases hy.intE
           obtain ⟨hne, h0, h9, hl, hR⟩ := ho
           rename_i k
           by_cases k1 : k = 1
           · subst k1
             refine .inr (.inr (.inr ⟨p, vs, rfl, rfl, hK ▸ (wo_sub _ _).st h1, w.same rp hR ?_⟩))
             have e : (List.replicate (1 : Int).toNat ‹List D›).flatten = ‹List D› := by
               show (List.replicate 1 _).flatten = _
               simp
             rw [e]
             exact hx
           · refine .inr (.inr (.inl ⟨p, _, vs, rfl, rfl, hK ▸ (wo_sub _ _).st h1, fun e => ?_, by omega, h9, by rw [r1.len]; exact hl, w.tup rp hR (r1.repl _)⟩))
             subst e
             cases r1
             exact hne rfl))
theorem fit_is : Fit2 c (fun x y H Q => (fun x y H Q => y = .non ∧ Q (.bl (decide (x = .non))) H) x y H Q ∨ rIsB x y H Q) oIs := fun s σ H x y a b R Q rp hx hy ho w => by
  cases b with
  | non =>
    cases hy.nonE
    refine .inl ⟨rfl, ?_⟩
    cases hx <;> exact w.same rp ho (.bl _)
  | bl j =>
    cases a <;> first | exact ho.elim | skip
    cases hx.blE; cases hy.blE
    exact .inr ⟨_, _, rfl, rfl, w.same rp ho (.bl _)⟩
  | _ => cases a <;> exact ho.elim
theorem fit_isnot : Fit2 c (fun x y H Q => (fun x y H Q => y = .non ∧ Q (.bl (!decide (x = .non))) H) x y H Q ∨ rNotB x y H Q) (oNot oIs) := fun s σ H x y a b R Q rp hx hy ho w => by
  cases b with
  | non =>
    cases hy.nonE
    refine .inl ⟨rfl, ?_⟩
    cases hx <;> exact w.same rp ho (.bl _)
  | bl j =>
    cases a <;> first | exact ho.elim | skip
    cases hx.blE; cases hy.blE
    exact .inr ⟨_, _, rfl, rfl, w.same rp ho (.bl _)⟩
  | _ => cases a <;> exact ho.elim
end
end DL
namespace DL
open PySem L2
open PySem.W (Frag)
mutual
def D.py : D → PyData
  | .non => .none
  | .bl b => .bool b
  | .int i => .int i
  | .str x => .str x
  | .lst xs => .list (pyA xs)
  | .tup xs => .tuple (pyA xs)
  | .dic => .dict []
  | .ins _ _ _ => .none
  | .exc _ _ _ => .none
def pyA : List D → List PyData
  | [] => []
  | d :: r => D.py d :: pyA r
end
mutual
def D.plain : D → Bool
  | .lst xs => plainA xs
  | .tup xs => plainA xs
  | .dic => false
  | .ins _ _ _ => false
  | .exc _ _ _ => false
  | .non => true
  | .bl _ => true
  | .int _ => true
  | .str _ => true
def plainA : List D → Bool
  | [] => true
  | d :: r => D.plain d && plainA r
end
mutual
theorem Rl.dp {K : Frag} {H : Hp} : ∀ (d : D) {v : V}, Rl K H v d → d.plain = true → Dp K H v d.py
  | .non, _, h, _ => by cases h; exact .non
  | .bl b, _, h, _ => by cases h; exact .bl b
  | .int i, _, h, _ => by cases h; exact .int i
  | .str x, _, h, _ => by cases h; exact .str x
  | .lst xs, _, h, p => by
    cases h with
    | lst h r => exact .lst (SqL.of h) (RlA.dp xs r p)
  | .tup xs, _, h, p => by
    cases h with
    | tup h r => exact .tup h (RlA.dp xs r p)
  | .dic, _, _, p => by cases p
  | .ins _ _ _, _, _, p => by cases p
  | .exc _ _ _, _, _, p => by cases p
theorem RlA.dp {K : Frag} {H : Hp} : ∀ (ds : List D) {vs : List V}, RlA K H vs ds → plainA ds = true → DpAll K H vs (pyA ds)
  | [], _, h, _ => by cases h; exact .nil
  | d :: r, _, h, p => by
    have p' := Bool.and_eq_true_iff.mp p
    cases h with
    | cons h q => exact .cons (Rl.dp d h p'.1) (RlA.dp r q p'.2)
end
def D.okE (d : D) : Bool := d.plain && SeqAt.shaped d.py
abbrev oEq : O2 := fun x y Q => match x, y with
  | .str a, .str b => Q (.bl (decide (a = b)))
  | x, y => x.okE = true ∧ y.okE = true ∧ Q (.bl (PyData.eqv x.py y.py))
abbrev oNe : O2 := fun x y Q => match x, y with
  | .str a, .str b => Q (.bl (!decide (a = b)))
  | x, y => x.okE = true ∧ y.okE = true ∧ Q (.bl (!PyData.eqv x.py y.py))
theorem Rl.strE {K : Frag} {H : Hp} {v : V} {x : PySem.Str} (h : Rl K H v (.str x)) : v = .str x := by
  cases h; rfl
theorem str_dec (a b : PySem.Str) : decide (V.str a = V.str b) = decide (a = b) := by
  by_cases e : a = b
  · subst e; simp
  · have : ¬ V.str a = V.str b := fun q => e (V.str.inj q)
    rw [decide_eq_false this, decide_eq_false e]
theorem plain_ints : ∀ ns : List Int, plainA (ns.map D.int) = true
  | [] => rfl
  | _ :: r => plain_ints r
theorem py_ints : ∀ ns : List Int, pyA (ns.map D.int) = ns.map PyData.int
  | [] => rfl
  | n :: r => congrArg (PyData.int n :: ·) (py_ints r)
theorem lay_ints : ∀ ns : List Int, PyData.canLayAll0 (ns.map PyData.int) = true
  | [] => rfl
  | n :: r => by
    show (PyData.canLay0 (.int n) && PyData.canLayAll0 (r.map PyData.int)) = true
    rw [lay_ints r]
    rfl
theorem depth_ints : ∀ ns : List Int, PyData.depthAll (ns.map PyData.int) = 0
  | [] => rfl
  | n :: r => by
    show max (PyData.depth (.int n)) (PyData.depthAll (r.map PyData.int)) = 0
    rw [depth_ints r]
    rfl
theorem eqv_ints : ∀ ns ms : List Int, PyData.eqvAll (ns.map PyData.int) (ms.map PyData.int) = decide (ns = ms)
  | [], [] => rfl
  | [], _ :: _ => rfl
  | _ :: _, [] => rfl
  | n :: r, m :: q => by
    show (PyData.eqv (.int n) (.int m) && PyData.eqvAll (r.map PyData.int) (q.map PyData.int)) = _
    rw [eqv_ints r q]
    show ((n == m) && decide (r = q)) = decide (n :: r = m :: q)
    by_cases h1 : n = m
    · subst h1
      by_cases h2 : r = q
      · simp [h2]
      · simp [h2]
    · have e : (n == m) = false := by simpa using h1
      rw [e]
      simp [h1]
theorem okE_tupI (ns : List Int) : (D.tup (ns.map D.int)).okE = true := by
  show (plainA (ns.map D.int) && (PyData.canLayAll0 (pyA (ns.map D.int)) && decide (PyData.depthAll (pyA (ns.map D.int)) + 1 ≤ 64))) = true
  rw [plain_ints, py_ints, lay_ints, depth_ints]
  rfl
theorem okE_lstI (ns : List Int) : (D.lst (ns.map D.int)).okE = true := okE_tupI ns
theorem eqv_tupI (ns ms : List Int) : PyData.eqv (D.tup (ns.map D.int)).py (D.tup (ms.map D.int)).py = decide (ns = ms) := by
  show PyData.eqvAll (pyA _) (pyA _) = _
  rw [py_ints, py_ints, eqv_ints]
def D.flat : D → Bool
  | .non => true
  | .bl _ => true
  | .int _ => true
  | .str _ => true
  | _ => false
def D.v : D → V
  | .non => .non
  | .bl b => .bl b
  | .int i => .int i
  | .str x => .str x
  | _ => .non
theorem Rl.flat {K : Frag} {H : Hp} {v : V} {d : D} (h : Rl K H v d) (f : d.flat = true) : v = d.v ∧ flatV v = true := by
  cases h <;> first | exact ⟨rfl, rfl⟩ | cases f
theorem RlA.flat {K : Frag} {H : Hp} : ∀ {vs : List V} {ds : List D}, RlA K H vs ds → ds.all D.flat = true → vs = ds.map D.v ∧ vs.all flatV = true
  | _, _, .nil, _ => ⟨rfl, rfl⟩
  | _, _, .cons h r, f => by
    rw [List.all_cons] at f
    have f' := Bool.and_eq_true_iff.mp f
    obtain ⟨e1, a1⟩ := h.flat f'.1
    obtain ⟨e2, a2⟩ := RlA.flat r f'.2
    exact ⟨by rw [List.map_cons, ← e1, ← e2], by rw [List.all_cons, a1, a2]; rfl⟩
def D.items : D → Option (List D)
  | .lst xs => some xs
  | .tup xs => some xs
  | _ => none
abbrev oIn : O2 := fun x y Q => x.flat = true ∧ ∃ ds, y.items = some ds ∧ ds.all D.flat = true ∧ Q (.bl (inV x.v (ds.map D.v)))
theorem Rl.items {K : Frag} {H : Hp} {v : V} {d : D} {ds : List D} (h : Rl K H v d) (e : d.items = some ds) : ∃ a vs, v = .ref a ∧ (SqL K H a vs ∨ SqT K H a vs) ∧ RlA K H vs ds := by
  cases d <;> first | cases e | skip
  · obtain ⟨a, vs, e, h, r⟩ := h.lstE
    exact ⟨a, vs, e, .inl (SqL.of h), r⟩
  · obtain ⟨a, vs, e, h, r⟩ := h.tupE
    exact ⟨a, vs, e, .inr h, r⟩
theorem sq_all {K : Frag} {A B : Hp} (x : Sub A B) {a : Addr} {vs : List V} (h : SqL K A a vs ∨ SqT K A a vs) : SqL K B a vs ∨ SqT K B a vs := h.elim (fun h => .inl (x.sl h)) fun h => .inr (x.st h)
section
variable {X : Cx} {c : C} (hK : c.K = X.K)
include hK
theorem fit_eq : Fit2 c (fun x y H Q => rEq x y H Q ∨ rEqD X.K x y H Q) oEq := fun s σ H x y a b R Q rp hx hy ho w => by
  unfold oEq at ho
  split at ho
  · cases hx.strE
    cases hy.strE
    exact .inl ⟨rfl, by rw [str_dec]; exact w.same rp ho (.bl _)⟩
  · obtain ⟨h1, h2, ho⟩ := ho
    have p1 := Bool.and_eq_true_iff.mp h1
    have p2 := Bool.and_eq_true_iff.mp h2
    exact .inr ⟨_, _, hK ▸ Rl.dp _ hx.all p1.1, hK ▸ Rl.dp _ hy.all p2.1, p1.2, p2.2, w.same rp ho (.bl _)⟩
theorem fit_ne : Fit2 c (fun x y H Q => rNe x y H Q ∨ rNeD X.K x y H Q) oNe := fun s σ H x y a b R Q rp hx hy ho w => by
  unfold oNe at ho
  split at ho
  · cases hx.strE
    cases hy.strE
    exact .inl ⟨rfl, by rw [str_dec]; exact w.same rp ho (.bl _)⟩
  · obtain ⟨h1, h2, ho⟩ := ho
    have p1 := Bool.and_eq_true_iff.mp h1
    have p2 := Bool.and_eq_true_iff.mp h2
    exact .inr ⟨_, _, hK ▸ Rl.dp _ hx.all p1.1, hK ▸ Rl.dp _ hy.all p2.1, p1.2, p2.2, w.same rp ho (.bl _)⟩
theorem fit_in : Fit2 c (rIn X.K false) oIn := fun s σ H x y a b R Q rp hx hy ⟨h1, ds, h2, h3, ho⟩ w => by
  obtain ⟨e1, f1⟩ := hx.flat h1
  obtain ⟨p, vs, rfl, hs, r⟩ := hy.items h2
  obtain ⟨e2, f2⟩ := r.flat h3
  refine ⟨p, vs, rfl, hK ▸ sq_all (wo_sub _ _) hs, f1, f2, ?_⟩
  rw [e1, e2]
  exact w.same rp ho (.bl _)
abbrev oIx : O2 := fun x y Q => match y with
  | .int i => ∃ ds d, x.items = some ds ∧ atI ds i = some d ∧ Q d
  | _ => False
omit hK in
theorem at_rl {K : Frag} {A : Hp} {vs : List V} {ds : List D} {i : Int} {d : D} (r : RlA K A vs ds) (h : atI ds i = some d) : ∃ v, atI vs i = some v ∧ Rl K A v d := by
  unfold atI at h ⊢
  rw [r.len]
  cases e : ixN ds.length i with
  | none => rw [e] at h; cases h
  | some j =>
    rw [e] at h
    exact r.getD (i := j) h
theorem fit_ix : Fit2 c (rIx X.K) oIx := fun s σ H x y a b R Q rp hx hy ho w => by
  cases b <;> first | exact ho.elim | skip
  rename_i i
  cases hy.intE
  obtain ⟨ds, d, h1, h2, hR⟩ := ho
  obtain ⟨p, vs, rfl, hs, r⟩ := hx.items h1
  obtain ⟨v, h3, h4⟩ := at_rl r h2
  rcases sq_all (wo_sub _ _) hs with hs | hs
  · exact .inl ⟨p, vs, i, v, rfl, rfl, hK ▸ hs, h3, w.same rp hR h4⟩
  · exact .inr (.inl ⟨p, vs, i, v, rfl, rfl, hK ▸ hs, h3, w.same rp hR h4⟩)
def cutD (xs : List D) (lo hi : Option Int) : List D := (xs.drop (HT.sIx xs.length 0 lo)).take (HT.sIx xs.length xs.length hi - HT.sIx xs.length 0 lo)
omit hK in
theorem cut_rl {K : Frag} {A : Hp} {vs : List V} {ds : List D} (r : RlA K A vs ds) (lo hi : Option Int) : RlA K A (cutV vs lo hi) (cutD ds lo hi) := by
  unfold cutV cutD
  rw [r.len]
  exact (r.drop _).take _
abbrev oSl (x : D) (lo hi : Option Int) (Q : D → Prop) : Prop := match x with
  | .lst xs => Q (.lst (cutD xs lo hi))
  | .tup xs => Q (.tup (cutD xs lo hi))
  | _ => False
theorem fit_sl (s : S) (σ : L2.St) (H : Hp) (x : V) (a : D) (lo hi : Option Int) (R : D → Prop) (Q : VK) (rp : Rep c s σ H) (hx : Rl c.K (c.hid s.X H) x a) (ho : oSl a lo hi R) (w : Wi c s σ H R Q) :
    rSlL X.K x lo hi H Q ∨ rSlA X.K x lo hi H Q := by
  cases a <;> first | exact ho.elim | skip
  · obtain ⟨p, vs, rfl, h1, r⟩ := hx.lstE
    exact .inl ⟨p, vs, rfl, hK ▸ SqL.of (wo_sub _ _ _ _ h1), w.lst rp ho (cut_rl r lo hi)⟩
  · obtain ⟨p, vs, rfl, h1, r⟩ := hx.tupE
    refine .inr ⟨p, vs, rfl, hK ▸ (wo_sub _ _).st h1, fun e => ?_, fun _ => w.tup rp ho (cut_rl r lo hi)⟩
    refine w.same rp ho ?_
    have e1 := e.1
    have e2 := e.2
    rw [r.len] at e1 e2
    unfold cutD
    rw [e1, e2, Nat.sub_zero, List.drop_zero, List.take_length]
    exact hx
end
def D.tru : D → Option Bool
  | .non => some false
  | .bl b => some b
  | .int i => some (i != 0)
  | .lst xs => some (!xs.isEmpty)
  | .tup xs => some (!xs.isEmpty)
  | .dic => some false
  | _ => none
abbrev dTru (t : DE) : DT := fun s Q => t s fun d k => ∃ b, d.tru = some b ∧ Q b k
abbrev dTB (t : DE) : DT := fun s Q => t s fun d k => ∃ b, d = .bl b ∧ Q b k
abbrev dAnd (t u : DT) : DT := fun s Q => t s fun b k => if b = true then u (s.at k) Q else Q false k
abbrev dOr (t u : DT) : DT := fun s Q => t s fun b k => if b = true then Q true k else u (s.at k) Q
abbrev dNot (t : DT) : DT := fun s Q => t s fun b k => Q (!b) k
abbrev dIf (t : DT) (a b : DE) : DE := fun s Q => t s fun x k => if x = true then a (s.at k) Q else b (s.at k) Q
abbrev dAndV (t u : DE) : DE := fun s Q => t s fun d k => ∃ b, d = .bl b ∧ if b = true then u (s.at k) Q else Q (.bl false) k
abbrev dOrV (t u : DE) : DE := fun s Q => t s fun d k => ∃ b, d = .bl b ∧ if b = true then Q (.bl true) k else u (s.at k) Q
abbrev dNotV (t : DE) : DE := fun s Q => t s fun d k => ∃ b, d = .bl b ∧ Q (.bl (!b)) k
theorem isEmpty_rl {K : Frag} {A : Hp} {vs : List V} {ds : List D} (r : RlA K A vs ds) : vs.isEmpty = ds.isEmpty := by
  cases r <;> rfl
section
variable {X : Cx} {c : C}
theorem pt_tru (hK : c.K = X.K) {a : Expr} {t : DE} (h : PE X a (LE c t)) (he : ∀ whole, isTrue a X.env whole = (do let v ← whole; standAt a.pos; holding [v] (truthy v)) := by intro _; rfl) : PT X a (LT c (dTru t)) :=
  (pt_truth h he).weak fun σ H Q ⟨s, R, rp, q, f⟩ => by
    refine ⟨s, _, rp, q, fun d k ⟨b, hb, hR⟩ v H' r1 a1 e1 => ⟨b, ?_, f b k hR H' r1 a1⟩⟩
    cases d <;> first | cases hb | skip
    · cases e1.nonE; rfl
    · cases e1.blE; rfl
    · cases e1.intE; rfl
    · obtain ⟨p, vs, rfl, h1, r⟩ := e1.lstE
      exact .inl ⟨vs, hK ▸ SqL.of (wo_sub _ _ _ _ h1), by rw [isEmpty_rl r]⟩
    · obtain ⟨p, vs, rfl, h1, r⟩ := e1.tupE
      exact .inr (.inl ⟨vs, hK ▸ (wo_sub _ _).st h1, by rw [isEmpty_rl r]⟩)
    · cases e1 with
      | dic h => exact .inr (.inr ⟨_, wo_sub _ _ _ _ h, rfl⟩)
theorem LT.ofB {t : DE} {σ : L2.St} {H : Hp} {Q : Bool → Hp → Prop} (h : LT c (dTB t) σ H Q) : LE c t σ H fun x H1 => ∃ b, x = .bl b ∧ Q b H1 := by
  obtain ⟨s, R, rp, q, f⟩ := h
  refine ⟨s, _, rp, q, fun d k ⟨b, hb, hR⟩ v H' r1 a1 e1 => ?_⟩
  subst hb
  cases e1.blE
  exact ⟨b, rfl, f b k hR H' r1 a1⟩
theorem pd_cmp {a b : Expr} {op : CmpOp} {pos : Pos} {ta tb : DE} {r : R2} {o : O2} (ho : OpR X (compareOp op) r) (f : Fit2 c r o) (ha : PE X a (LE c ta)) (hb : PE X b (LE c tb)) (hm : behindInMarks op b = false := by first | exact nomark _ | rfl) :
    PE X (.Compare a [op] [b] pos) (LE c (dOp o ta tb)) := (pe_cmpR ho ha hb hm).weak fun σ H Q h => LE.op f σ H Q h
theorem ptd_cmp {a b : Expr} {op : CmpOp} {pos : Pos} {ta tb : DE} {r : R2} {o : O2} (ho : OpR X (compareOp op) r) (f : Fit2 c r o) (ha : PE X a (LE c ta)) (hb : PE X b (LE c tb)) (hm : behindInMarks op b = false := by first | exact nomark _ | rfl) :
    PT X (.Compare a [op] [b] pos) (LT c (dTB (dOp o ta tb))) := (pt_cmpR ho ha hb hm).weak fun σ H Q h => LE.op f σ H _ h.ofB
theorem pwd_and1 {a : Expr} {pos : Pos} {t : DT} (ha : PT X a (LT c t)) : PW X (.BoolOp .And [a] pos) (LT c t) := pw_and1 ha
theorem pwd_or1 {a : Expr} {pos : Pos} {t : DT} (ha : PT X a (LT c t)) : PW X (.BoolOp .Or [a] pos) (LT c t) := pw_or1 ha
theorem pwd_and {a b : Expr} {rest : List Expr} {pos : Pos} {t u : DT} (ha : PT X a (LT c t)) (hb : PW X (.BoolOp .And (b :: rest) pos) (LT c u)) : PW X (.BoolOp .And (a :: b :: rest) pos) (LT c (dAnd t u)) :=
  (pw_and ha hb).weak fun σ H Q ⟨s, R, rp, q, f⟩ => by
    refine ⟨s, _, rp, q, fun b k hb H1 r1 a1 => ?_⟩
    cases b with
    | true => exact ⟨s.at k, R, r1, hb, fun b' k' hR H2 r2 a2 => f b' k' hR H2 r2 (a1.trans a2)⟩
    | false => exact f false k hb H1 r1 a1
theorem pwd_or {a b : Expr} {rest : List Expr} {pos : Pos} {t u : DT} (ha : PT X a (LT c t)) (hb : PW X (.BoolOp .Or (b :: rest) pos) (LT c u)) : PW X (.BoolOp .Or (a :: b :: rest) pos) (LT c (dOr t u)) :=
  (pw_or ha hb).weak fun σ H Q ⟨s, R, rp, q, f⟩ => by
    refine ⟨s, _, rp, q, fun b k hb H1 r1 a1 => ?_⟩
    cases b with
    | false => exact ⟨s.at k, R, r1, hb, fun b' k' hR H2 r2 a2 => f b' k' hR H2 r2 (a1.trans a2)⟩
    | true => exact f true k hb H1 r1 a1
theorem ptd_not {a : Expr} {pos : Pos} {t : DT} (ha : PT X a (LT c t)) : PT X (.UnaryOp .Not a pos) (LT c (dNot t)) :=
  (pt_not ha).weak fun σ H Q ⟨s, R, rp, q, f⟩ => ⟨s, _, rp, q, fun b k hb H1 r1 a1 => f _ k hb H1 r1 a1⟩
theorem pd_if {t a b : Expr} {pos : Pos} {tt : DT} {ta tb : DE} (ht : PT X t (LT c tt)) (ha : PE X a (LE c ta)) (hb : PE X b (LE c tb)) : PE X (.IfExp t a b pos) (LE c (dIf tt ta tb)) :=
  (pe_ifExp ht ha hb).weak fun σ H Q ⟨s, R, rp, q, f⟩ => by
    refine ⟨s, _, rp, q, fun b k hb H1 r1 a1 => ?_⟩
    cases b with
    | true => exact ⟨s.at k, R, r1, hb, fun d k' hR v H2 r2 a2 e => f d k' hR v H2 r2 (a1.trans a2) e⟩
    | false => exact ⟨s.at k, R, r1, hb, fun d k' hR v H2 r2 a2 e => f d k' hR v H2 r2 (a1.trans a2) e⟩
theorem pd_one {a : Expr} {op} {pos : Pos} {t : DE} (h : PE X a (LE c t)) : PE X (.BoolOp op [a] pos) (LE c t) := pe_one h
theorem pd_andV {a b : Expr} {rest : List Expr} {pos : Pos} {t u : DE} (ha : PE X a (LE c t)) (hb : PE X (.BoolOp .And (b :: rest) pos) (LE c u)) : PE X (.BoolOp .And (a :: b :: rest) pos) (LE c (dAndV t u)) :=
  (pe_and ha hb).weak fun σ H Q ⟨s, R, rp, q, f⟩ => by
    refine ⟨s, _, rp, q, fun d k ⟨b, hd, hb⟩ v H1 r1 a1 e1 => ?_⟩
    subst hd
    cases e1.blE
    refine ⟨b, rfl, ?_⟩
    cases b with
    | true => exact ⟨s.at k, R, r1, hb, fun d k' hR v H2 r2 a2 e => f d k' hR v H2 r2 (a1.trans a2) e⟩
    | false => exact f _ k hb _ H1 r1 a1 (.bl _)
theorem pd_orV {a b : Expr} {rest : List Expr} {pos : Pos} {t u : DE} (ha : PE X a (LE c t)) (hb : PE X (.BoolOp .Or (b :: rest) pos) (LE c u)) : PE X (.BoolOp .Or (a :: b :: rest) pos) (LE c (dOrV t u)) :=
  (pe_or ha hb).weak fun σ H Q ⟨s, R, rp, q, f⟩ => by
    refine ⟨s, _, rp, q, fun d k ⟨b, hd, hb⟩ v H1 r1 a1 e1 => ?_⟩
    subst hd
    cases e1.blE
    refine ⟨b, rfl, ?_⟩
    cases b with
    | false => exact ⟨s.at k, R, r1, hb, fun d k' hR v H2 r2 a2 e => f d k' hR v H2 r2 (a1.trans a2) e⟩
    | true => exact f _ k hb _ H1 r1 a1 (.bl _)
theorem pd_notV {a : Expr} {pos : Pos} {t : DE} (ha : PE X a (LE c t)) : PE X (.UnaryOp .Not a pos) (LE c (dNotV t)) :=
  (pe_not ha).weak fun σ H Q ⟨s, R, rp, q, f⟩ => by
    refine ⟨s, _, rp, q, fun d k ⟨b, hd, hb⟩ v H1 r1 a1 e1 => ?_⟩
    subst hd
    cases e1.blE
    exact ⟨b, rfl, f _ k hb _ H1 r1 a1 (.bl _)⟩
end
abbrev dNil : DA := fun s Q => Q [] s.k
abbrev dCons (t : DE) (u : DA) : DA := fun s Q => t s fun d k => u (s.at k) fun ds k' => Q (d :: ds) k'
abbrev dTup (t : DA) : DE := fun s Q => t s fun ds k => ds.length ≤ lim ∧ Q (.tup ds) k
abbrev DO' := S → (Option Int → Nat → Prop) → Prop
def LO (c : C) (t : DO') : TO := fun σ H Q => ∃ s R, Rep c s σ H ∧ t s R ∧ ∀ b k, R b k → ∀ H', Rep c (s.at k) σ H' → AdvE c s.X H H' → Q b H'
abbrev dON : DO' := fun s Q => Q none s.k
abbrev dOS (t : DE) : DO' := fun s Q => t s fun d k => ∃ i, d = .int i ∧ Q (some i) k
abbrev dSl (t : DE) (l h : DO') : DE := fun s Q => t s fun x k => l (s.at k) fun lo k1 => h (s.at k1) fun hi k2 => oSl x lo hi fun z => Q z k2
section
variable {X : Cx} {c : C}
theorem pad_nil : PA X [] (LA c dNil) := pa_nil.weak fun σ H Q ⟨s, R, rp, q, f⟩ => f _ _ q [] H rp AdvE.refl .nil
theorem pad_cons {e : Expr} {es : List Expr} {t : DE} {u : DA} (ha : PE X e (LE c t)) (hr : PA X es (LA c u)) (hs : starEach (e :: es) X.env = (false, eval e X.env) :: starEach es X.env := by rfl) : PA X (e :: es) (LA c (dCons t u)) :=
  (pa_cons ha hr hs).weak fun σ H Q ⟨s, R, rp, q, f⟩ =>
    ⟨s, _, rp, q, fun d k hd v H1 r1 a1 e1 => ⟨s.at k, _, r1, hd, fun ds k2 h2 vs H2 r2 a2 e2 => f _ k2 h2 _ H2 r2 (a1.trans a2) (.cons (e1.mono a2.sub) e2)⟩⟩
theorem pd_tup {es : List Expr} {x1} {pos : Pos} {t : DA} (h : PA X es (LA c t)) : PE X (.Tuple es x1 pos) (LE c (dTup t)) :=
  (pe_tup h).weak fun σ H Q ⟨s, R, rp, q, f⟩ => by
    refine ⟨s, _, rp, q, fun ds k ⟨hl, hR⟩ vs H1 r1 a1 e1 => ⟨by rw [e1.len]; exact lim_le hl, ?_⟩⟩
    exact Wi.tup (c := c) (s := s.at k) (σ := σ) (R := fun d => d = .tup ds) (fun d hd v H' r' a' e' => by subst hd; exact f _ k hR v H' r' (a1.trans a') e') r1 rfl e1
theorem pd_bin {a b : Expr} {op : Operator} {pos : Pos} {ta tb : DE} {r : R2} {o : O2} (ho : OpR X (binaryOp op) r) (f : Fit2 c r o) (ha : PE X a (LE c ta)) (hb : PE X b (LE c tb)) : PE X (.BinOp a op b pos) (LE c (dOp o ta tb)) :=
  (pe_op ho ha hb).weak fun σ H Q h => LE.op f σ H Q h
theorem pd_add (hK : c.K = X.K) {a b : Expr} {pos : Pos} {ta tb : DE} (ha : PE X a (LE c ta)) (hb : PE X b (LE c tb)) : PE X (.BinOp a .Add b pos) (LE c (dOp oAdd ta tb)) := pd_bin (OpR.or op_add (OpR.or op_cat op_catA)) (fit_add hK) ha hb
theorem pd_mul (hK : c.K = X.K) {a b : Expr} {pos : Pos} {ta tb : DE} (ha : PE X a (LE c ta)) (hb : PE X b (LE c tb)) : PE X (.BinOp a .Mult b pos) (LE c (dOp oMul ta tb)) := pd_bin (OpR.or op_mul (OpR.or op_rep (OpR.or op_repT op_rep1))) (fit_mul hK) ha hb
theorem pd_sub {a b : Expr} {pos : Pos} {ta tb : DE} (ha : PE X a (LE c ta)) (hb : PE X b (LE c tb)) : PE X (.BinOp a .Sub b pos) (LE c (dOp oSub ta tb)) := pd_bin op_sub fit_sub ha hb
theorem pd_div {a b : Expr} {pos : Pos} {ta tb : DE} (ha : PE X a (LE c ta)) (hb : PE X b (LE c tb)) : PE X (.BinOp a .FloorDiv b pos) (LE c (dOp oDiv ta tb)) := pd_bin op_fdivW fit_div ha hb
theorem pd_mod {a b : Expr} {pos : Pos} {ta tb : DE} (ha : PE X a (LE c ta)) (hb : PE X b (LE c tb)) : PE X (.BinOp a .Mod b pos) (LE c (dOp oMod ta tb)) := pd_bin op_mod fit_mod ha hb
theorem pd_pow {a b : Expr} {pos : Pos} {ta tb : DE} (ha : PE X a (LE c ta)) (hb : PE X b (LE c tb)) : PE X (.BinOp a .Pow b pos) (LE c (dOp oPow ta tb)) := pd_bin op_pow fit_pow ha hb
theorem pd_ix (hK : c.K = X.K) {a b : Expr} {pos : Pos} {ta tb : DE} (ha : PE X a (LE c ta)) (hb : PE X b (LE c tb)) (hs : PlainIx b := by exact fun _ _ => rfl) : PE X (.Subscript a b pos) (LE c (dOp oIx ta tb)) :=
  (pe_ix ix_seq ha hb hs).weak fun σ H Q h => LE.op (fit_ix hK) σ H Q h
theorem pod_none : PO X none (LO c dON) := ⟨fun p s σ H Q I ⟨st, R, rp, q, f⟩ => po_none.run p s σ H Q I (f _ _ q H rp AdvE.refl)⟩
theorem pod_some {e : Expr} {t : DE} (h : PE X e (LE c t)) : PO X (some e) (LO c (dOS t)) := ⟨fun p s σ H Q I ⟨st, R, rp, q, f⟩ => (po_some h).run p s σ H Q I
  ⟨st, _, rp, q, fun d k ⟨i, hd, hR⟩ v H1 r1 a1 e1 => by
    subst hd
    exact ⟨i, e1.intE, f _ k hR H1 r1 a1⟩⟩⟩
theorem pd_slice (hK : c.K = X.K) {e : Expr} {lo hi : Option Expr} {p2 pos : Pos} {t : DE} {tl th : DO'} (he : PE X e (LE c t)) (hl : PO X lo (LO c tl)) (hh : PO X hi (LO c th)) : PE X (.Subscript e (.Slice lo hi none p2) pos) (LE c (dSl t tl th)) :=
  (pe_slice (SlR.or sl_list sl_tupA) he hl hh).weak fun σ H Q ⟨s, R, rp, q, f⟩ => by
    refine ⟨s, _, rp, q, fun x k h1 v H1 r1 a1 e1 => ⟨s.at k, _, r1, h1, fun l k2 h2 H2 r2 a2 => ⟨s.at k2, _, r2, h2, fun u k3 h3 H3 r3 a3 => ?_⟩⟩⟩
    exact fit_sl hK (s.at k3) σ H3 v x l u _ Q r3 ((e1.mono a2.sub).mono a3.sub) h3 fun z hz w H4 r4 a4 e4 => f z k3 hz w H4 r4 (((a1.trans a2).trans a3).trans a4) e4
end
end DL
namespace DL
open PySem L2
open PySem.W (Frag)
def Yl (c : C) (s0 : S) (Hs : Hp) (J : It) (items : List D) : Prop := ∀ (i : Nat) (s : S) (σ : L2.St) (H : Hp), Rep c s σ H → Adv c s0 Hs s H →
  (items.length ≤ i → J.stop i H) ∧ ∀ d, items[i]? = some d → J.go i H ∧ ∀ x H', J.yld i H x H' → Rep c s σ H' ∧ AdvE c s.X H H' ∧ Rl c.K (c.hid s.X H') x d
abbrev DI := S → (List D → Nat → Prop) → Prop
def LI (c : C) (t : DI) : TI := fun σ H R => ∃ s Z, Rep c s σ H ∧ t s Z ∧ ∀ items k, Z items k → ∀ J H', Rep c (s.at k) σ H' → AdvE c s.X H H' → Yl c s H' J items → R J H'
abbrev iSeq (t : DE) : DI := fun s Q => t s fun d k => ∃ ds, d.items = some ds ∧ Q ds k
abbrev iLst (t : DE) : DI := fun s Q => t s fun d k => ∃ ds, d = .lst ds ∧ Q ds k
abbrev iTp (t : DE) : DI := fun s Q => t s fun d k => ∃ ds, d = .tup ds ∧ Q ds k
@[reducible] def rngD (lo : Int) (n : Nat) : List D := (List.range n).map fun (i : Nat) => .int (lo + i)
abbrev iR1 (t : DE) : DI := fun s Q => t s fun d k => ∃ j, d = .int j ∧ -(2 ^ 62) ≤ j ∧ j < 2 ^ 62 ∧ Q (rngD 0 j.toNat) k
abbrev iR2 (t u : DE) : DI := fun s Q => t s fun d k => u (s.at k) fun e k' => ∃ i j, d = .int i ∧ e = .int j ∧ (-(2 ^ 62) ≤ i ∧ i < 2 ^ 62 ∧ -(2 ^ 62) ≤ j ∧ j < 2 ^ 62) ∧ Q (rngD i (j - i).toNat) k'
theorem rngD_at {lo : Int} {n i : Nat} {d : D} (h : (rngD lo n)[i]? = some d) : i < n ∧ d = .int (lo + i) := by
  unfold rngD at h
  rw [List.getElem?_map] at h
  by_cases hi : i < n
  · rw [List.getElem?_range hi] at h
    exact ⟨hi, (Option.some.inj h).symm⟩
  · rw [List.getElem?_eq_none (by rw [List.length_range]; omega)] at h
    cases h
theorem rngD_len (lo : Int) (n : Nat) : (rngD lo n).length = n := by unfold rngD; rw [List.length_map, List.length_range]
theorem Yl.range {c : C} {s0 : S} {Hs : Hp} {lo : Int} {n : Nat} : Yl c s0 Hs (Itr lo n) (rngD lo n) := fun i s σ H rp _ => by
  refine ⟨fun h => by rw [rngD_len] at h; exact h, fun d hd => ?_⟩
  obtain ⟨hi, rfl⟩ := rngD_at hd
  refine ⟨hi, fun x H' ⟨e1, e2⟩ => ?_⟩
  subst e1 e2
  exact ⟨rp, AdvE.refl, .int _⟩
theorem Yl.list {c : C} {s0 : S} {Hs : Hp} {K : Frag} {a : Addr} {vs : List V} {ds : List D} (hK : c.K = K) (h : c.hid s0.X Hs a = some (.lst vs)) (r : RlA c.K (c.hid s0.X Hs) vs ds) : Yl c s0 Hs (Itl K a) ds := fun i s σ H rp ad => by
  have h1 : SqL K H a vs := SqL.of (wo_sub _ _ _ _ (ad _ _ h))
  have r1 := r.mono ad
  refine ⟨fun hl => ⟨vs, h1, by rw [r.len]; exact hl⟩, fun d hd => ?_⟩
  obtain ⟨v, hv, hr⟩ := r1.getD hd
  refine ⟨⟨vs, v, h1, hv⟩, fun x H' ⟨e1, e2⟩ => ?_⟩
  subst e1
  have e3 := e2 vs h1
  rw [hv] at e3
  cases e3
  exact ⟨rp, AdvE.refl, hr⟩
theorem Yl.tup {c : C} {s0 : S} {Hs : Hp} {K : Frag} {a : Addr} {vs : List V} {ds : List D} (hK : c.K = K) (h : SqT c.K (c.hid s0.X Hs) a vs) (r : RlA c.K (c.hid s0.X Hs) vs ds) : Yl c s0 Hs (Itt K a) ds := fun i s σ H rp ad => by
  subst hK
  have h1 : SqT c.K H a vs := (ad.trans (wo_sub _ _)).st h
  have r1 := r.mono ad
  refine ⟨fun hl => ⟨vs, h1, by rw [r.len]; exact hl⟩, fun d hd => ?_⟩
  obtain ⟨v, hv, hr⟩ := r1.getD hd
  refine ⟨⟨vs, v, h1, hv⟩, fun x H' ⟨e1, e2⟩ => ?_⟩
  subst e1
  have e3 := e2 vs h1
  rw [hv] at e3
  cases e3
  exact ⟨rp, AdvE.refl, hr⟩
@[reducible] def enumD (n : Nat) : List D → List D
  | [] => []
  | d :: r => .tup [.int n, d] :: enumD (n + 1) r
theorem enum_at : ∀ {ds : List D} {n i : Nat} {d : D}, (enumD n ds)[i]? = some d → ∃ e, ds[i]? = some e ∧ d = .tup [.int ((n + i : Nat) : Int), e]
  | [], _, _, _, h => by cases h
  | e :: r, n, 0, d, h => ⟨e, rfl, (Option.some.inj h).symm⟩
  | e :: r, n, i + 1, d, h => by
    obtain ⟨x, h1, h2⟩ := enum_at (ds := r) (n := n + 1) (i := i) h
    exact ⟨x, h1, by rw [h2]; congr 3; omega⟩
theorem enum_len : ∀ (ds : List D) (n : Nat), (enumD n ds).length = ds.length
  | [], _ => rfl
  | _ :: r, n => congrArg (· + 1) (enum_len r (n + 1))
theorem Yl.pair {c : C} {s : S} {σ : L2.St} {H : Hp} {T : Addr} {x y : V} {d e : D} (rp : Rep c s σ H) (hT : H T = none) (h1 : Rl c.K (c.hid s.X H) x d) (h2 : Rl c.K (c.hid s.X H) y e) :
    Rep c s σ (upd H T (.tup [x, y])) ∧ AdvE c s.X H (upd H T (.tup [x, y])) ∧ Rl c.K (c.hid s.X (upd H T (.tup [x, y]))) (.ref T) (.tup [d, e]) := by
  have n := rp.new (o := .tup [x, y]) hT
  exact ⟨n.1, n.2, .tup (SqT.of (rp.at_new hT)) (.cons (h1.mono n.2.sub) (.cons (h2.mono n.2.sub) .nil))⟩
section
variable {X : Cx} {c : C} {tg : Expr}
theorem PI.weak {iter : Expr} {t t' : TI} (h : PI X tg iter t) (w : ∀ σ H R, t' σ H R → t σ H R) : PI X tg iter t' := ⟨fun p s σ H R I q => h.run p s σ H R I (w _ _ _ q)⟩
theorem pid_list (hK : c.K = X.K) {l : Expr} {t : DE} (h : PE X l (LE c t)) : PI X tg l (LI c (iLst t)) :=
  PI.weak (pi_list h) fun σ H R ⟨s, Z, rp, q, f⟩ => ⟨s, _, rp, q, fun d k ⟨ds, hd, hz⟩ v H1 r1 a1 e1 => by
    subst hd
    obtain ⟨a, vs, rfl, h1, r⟩ := e1.lstE
    exact ⟨a, rfl, ⟨vs, SqL.of (wo_sub _ _ _ _ h1)⟩, f ds k hz _ H1 r1 a1 (Yl.list hK h1 r)⟩⟩
theorem pid_tup (hK : c.K = X.K) {l : Expr} {t : DE} (h : PE X l (LE c t)) : PI X tg l (LI c (iTp t)) :=
  PI.weak (pi_tup h) fun σ H R ⟨s, Z, rp, q, f⟩ => ⟨s, _, rp, q, fun d k ⟨ds, hd, hz⟩ v H1 r1 a1 e1 => by
    subst hd
    obtain ⟨a, vs, rfl, h1, r⟩ := e1.tupE
    exact ⟨a, rfl, ⟨vs, hK ▸ (wo_sub _ _).st h1⟩, f ds k hz _ H1 r1 a1 (Yl.tup hK h1 r)⟩⟩
theorem pid_r1 {a : Expr} {t : DE} {p pos : Pos} (hm : X.mg "range" = none) (ha : PE X a (LE c t)) (hg : Gl X "range" := by rfl) (hs : starEach [a] X.env = [(false, eval a X.env)] := by rfl) : PI X tg (.Call (.Name "range" p) [a] [] pos) (LI c (iR1 t)) :=
  PI.weak (pi_range1 hg hm (pad_cons ha pad_nil hs) hs) fun σ H R ⟨s, Z, rp, q, f⟩ =>
    ⟨s, fun ds k => (match ds with | [d] => ∃ j, d = .int j ∧ -(2 ^ 62) ≤ j ∧ j < 2 ^ 62 ∧ Z (rngD 0 j.toNat) k | _ => False), rp, q, fun ds k hq vs H1 r1 a1 e1 => by
      cases e1 with
      | nil => exact hq.elim
      | cons e1 e2 =>
        cases e2 with
        | cons _ _ => exact hq.elim
        | nil =>
          obtain ⟨j, hd, h1, h2, hz⟩ := hq
          subst hd
          cases e1.intE
          exact ⟨j, rfl, h1, h2, f _ k hz _ H1 r1 a1 Yl.range⟩⟩
theorem pid_r2 {a b : Expr} {t u : DE} {p pos : Pos} (hm : X.mg "range" = none) (ha : PE X a (LE c t)) (hb : PE X b (LE c u)) (hg : Gl X "range" := by rfl) (hs : starEach [a, b] X.env = [(false, eval a X.env), (false, eval b X.env)] := by rfl) (hs2 : starEach [b] X.env = [(false, eval b X.env)] := by rfl) :
    PI X tg (.Call (.Name "range" p) [a, b] [] pos) (LI c (iR2 t u)) :=
  PI.weak (pi_range2 hg hm (pad_cons ha (pad_cons hb pad_nil hs2) (by rw [hs, hs2])) hs hs2) fun σ H R ⟨s, Z, rp, q, f⟩ =>
    ⟨s, fun ds k => (match ds with | [d, e] => ∃ i j, d = .int i ∧ e = .int j ∧ (-(2 ^ 62) ≤ i ∧ i < 2 ^ 62 ∧ -(2 ^ 62) ≤ j ∧ j < 2 ^ 62) ∧ Z (rngD i (j - i).toNat) k | _ => False), rp, q, fun ds k hq vs H1 r1 a1 e1 => by
      cases e1 with
      | nil => exact hq.elim
      | cons e1 e2 =>
        cases e2 with
        | nil => exact hq.elim
        | cons e2 e3 =>
          cases e3 with
          | cons _ _ => exact hq.elim
          | nil =>
            obtain ⟨i, j, hd, he, h1, hz⟩ := hq
            subst hd he
            cases e1.intE
            cases e2.intE
            exact ⟨i, j, rfl, h1, f _ k hz _ H1 r1 a1 Yl.range⟩⟩
end
end DL
namespace DL
open PySem L2
open PySem.W (Frag)
abbrev S.put (s : S) (i : Nat) (x : Sl) : S := { s with sl := s.sl.set i x }
theorem get_set_cases {α : Type} {l : List α} {i j : Nat} {x y : α} (h : (l.set i x)[j]? = some y) : (i = j ∧ y = x ∧ j < l.length) ∨ (i ≠ j ∧ l[j]? = some y) := by
  by_cases e : i = j
  · subst e
    by_cases hl : i < l.length
    · rw [List.getElem?_set_self hl] at h
      exact .inl ⟨rfl, (Option.some.inj h).symm, hl⟩
    · rw [List.getElem?_eq_none (by rw [List.length_set]; omega)] at h
      cases h
  · rw [List.getElem?_set_ne e] at h
    exact .inr ⟨e, h⟩
theorem Rep.put {c : C} {s : S} {σ : L2.St} {H : Hp} {i : Nat} {v : V} {x : Sl} (r : Rep c s σ H) (h : SlOk c s.X H (some (some v)) x) (ha : ∀ p ds, x = .own p ds → ∀ j q es, s.sl[j]? = some (.own q es) → j ≠ i → p ≠ q) : Rep c (s.put i x) (σ.set i (some v)) H := by
  refine ⟨r.sub, r.old, r.x0, r.xm, r.xs, r.m, fun j y e => ?_, fun j k p q ds es e1 e2 ne => ?_, by rw [List.length_set, List.length_set]; exact r.len, r.tb, r.xt⟩
  · rcases get_set_cases e with ⟨rfl, rfl, hl⟩ | ⟨ne, e⟩
    · rw [List.getElem?_set_self (by rw [← r.len]; exact hl)]
      exact h
    · rw [List.getElem?_set_ne ne]
      exact r.slot j y e
  · rcases get_set_cases e1 with ⟨rfl, e1, _⟩ | ⟨n1, e1⟩
    · rcases get_set_cases e2 with ⟨rfl, _, _⟩ | ⟨n2, e2⟩
      · exact absurd rfl ne
      · exact ha p ds e1.symm k q es e2 (fun z => n2 z.symm)
    · rcases get_set_cases e2 with ⟨rfl, e2, _⟩ | ⟨n2, e2⟩
      · exact fun z => ha q es e2.symm j p ds e1 (fun z => n1 z.symm) z.symm
      · exact r.apart j k p q ds es e1 e2 ne
theorem Rep.putD {c : C} {s : S} {σ : L2.St} {H : Hp} {i : Nat} {v : V} {d : D} (r : Rep c s σ H) (h : Rl c.K (c.hid s.X H) v d) : Rep c (s.put i (.dat d)) (σ.set i (some v)) H := r.put ⟨v, rfl, h⟩ fun p ds e => nomatch e
theorem Rep.wipe1 {c : C} {s : S} {σ : L2.St} {H : Hp} {i : Nat} (r : Rep c s σ H) : Rep c (s.put i .no) (σ.set i none) H := by
  refine ⟨r.sub, r.old, r.x0, r.xm, r.xs, r.m, fun j y e => ?_, fun j k p q ds es e1 e2 ne => ?_, by rw [List.length_set, List.length_set]; exact r.len, r.tb, r.xt⟩
  · rcases get_set_cases e with ⟨rfl, rfl, hl⟩ | ⟨ne, e⟩
    · trivial
    · rw [List.getElem?_set_ne ne]
      exact r.slot j y e
  · rcases get_set_cases e1 with ⟨rfl, e1, _⟩ | ⟨n1, e1⟩
    · cases e1
    · rcases get_set_cases e2 with ⟨rfl, e2, _⟩ | ⟨n2, e2⟩
      · cases e2
      · exact r.apart j k p q ds es e1 e2 ne
@[reducible] def S.wipe (s : S) : List Nat → S
  | [] => s
  | v :: vs => (s.wipe vs).put v .no
theorem S.wipe_X (s : S) : ∀ vs, (s.wipe vs).X = s.X ∧ (s.wipe vs).k = s.k
  | [] => ⟨rfl, rfl⟩
  | v :: vs => s.wipe_X vs
theorem Rep.wipe {c : C} {s : S} {σ : L2.St} {H : Hp} (r : Rep c s σ H) : ∀ vs, Rep c (s.wipe vs) (L2.wipe σ vs) H
  | [] => r
  | v :: vs => (r.wipe vs).wipe1
abbrev DG := D → S → (S → Prop) → Prop
abbrev DGs := List D → S → (S → Prop) → Prop
def LG (c : C) (ts : List Nat) (t : DG) : TG := fun v σ H Q => ∃ s R d, Rep c s σ H ∧ Rl c.K (c.hid s.X H) v d ∧ t d s R ∧ ∀ s', R s' → ∀ σ' H', Rep c s' σ' H' → AdvE c s.X H H' → s'.X = s.X → (∀ j, j ∉ ts → σ'[j]? = σ[j]?) → σ'.length = σ.length → Q σ' H'
def LGs (c : C) (ts : List Nat) (t : DGs) : TGs := fun v σ H Q => ∃ s R d, Rep c s σ H ∧ RlA c.K (c.hid s.X H) v d ∧ t d s R ∧ ∀ s', R s' → ∀ σ' H', Rep c s' σ' H' → AdvE c s.X H H' → s'.X = s.X → (∀ j, j ∉ ts → σ'[j]? = σ[j]?) → σ'.length = σ.length → Q σ' H'
abbrev dgN (i : Nat) : DG := fun d s Q => Q (s.put i (.dat d))
abbrev dgNil : DGs := fun ds s Q => ds = [] ∧ Q s
abbrev dgCons (t : DG) (u : DGs) : DGs := fun ds s Q => match ds with | d :: r => t d s fun s' => u r s' Q | [] => False
abbrev dgTup (n : Nat) (t : DGs) : DG := fun d s Q => match d with | .tup ds => ds.length = n ∧ t ds s Q | _ => False
section
variable {X : Cx} {c : C} {pos : Pos}
theorem PG.weak {tg : Expr} {t t' : TG} (h : PG X tg t) (w : ∀ v σ H Q, t' v σ H Q → t v σ H Q) : PG X tg t' := ⟨fun p s σ H v u Q I r q => h.run p s σ H v u Q I r (w _ _ _ _ q)⟩
theorem PGs.weak {tg : List Expr} {t t' : TGs} (h : PGs X tg t) (w : ∀ v σ H Q, t' v σ H Q → t v σ H Q) : PGs X tg t' := ⟨fun p s σ H v u Q I r q => h.run p s σ H v u Q I r (w _ _ _ _ q)⟩
theorem pgd_name (i : Nat) {x : PySem.Str} (hN : X.N.Nodup) (hi : X.N[i]? = some x := by rfl) (hx : Loc X.env.scope x := by first | exact Or.inl rfl | exact Or.inr rfl) (hf : X.fn x = true ∨ X.env.scope.names.lookup x = some .local := by first | exact .inl rfl | exact .inr rfl) : PG X (.Name x pos) (LG c [i] (dgN i)) :=
  PG.weak (pg_name hN hi hx hf) fun v σ H Q ⟨s, R, d, rp, e, q, f⟩ => f _ q _ H (rp.putD e) AdvE.refl rfl (fun j hj => List.getElem?_set_ne (fun z => hj (by simp [z]))) (List.length_set ..)
theorem pgds_nil : PGs X [] (LGs c [] dgNil) := PGs.weak pgs_nil fun v σ H Q ⟨s, R, d, rp, e, ⟨q1, q2⟩, f⟩ => by
  subst q1
  cases e
  exact ⟨rfl, f _ q2 _ H rp AdvE.refl rfl (fun _ _ => rfl) rfl⟩
theorem pgds_cons {e : Expr} {es : List Expr} {ts us : List Nat} {t : DG} {u : DGs} (h1 : PG X e (LG c ts t)) (h2 : PGs X es (LGs c us u)) (hs : (assignEach (e :: es) X.env).map (·.2) = assign e X.env :: (assignEach es X.env).map (·.2) := by rfl) : PGs X (e :: es) (LGs c (ts ++ us) (dgCons t u)) :=
  PGs.weak (pgs_cons h1 h2 hs) fun vs σ H Q ⟨s, R, ds, rp, r, q, f⟩ => by
    cases r with
    | nil => exact q.elim
    | cons r1 rr =>
      refine ⟨_, _, rfl, s, _, _, rp, r1, q, fun s1 q1 σ1 H1 rp1 a1 x1 k1 l1 => ?_⟩
      refine ⟨s1, _, _, rp1, ?_, q1, fun s2 q2 σ2 H2 rp2 a2 x2 k2 l2 => f s2 q2 σ2 H2 rp2 (a1.trans (x1 ▸ a2)) (x2.trans x1) (fun j hj => ?_) (l2.trans l1)⟩
      · rw [x1]; exact rr.mono a1.sub
      · rw [k2 j fun z => hj (List.mem_append_right _ z), k1 j fun z => hj (List.mem_append_left _ z)]
theorem pgd_tup (hK : c.K = X.K) (hc : X.calm = true) {es : List Expr} {kk : Nat} {ts : List Nat} {t : DGs} {n : Nat} (h : PGs X es (LGs c ts t)) (hn : (assignEach es X.env).length = n := by rfl) (hst : (assignEach es X.env).findIdx? (·.1) = none := by rfl) : PG X (.Tuple es kk pos) (LG c ts (dgTup n t)) :=
  PG.weak (pg_tup hc h hn hst) fun v σ H Q ⟨s, R, d, rp, r, q, f⟩ => by
    cases d <;> first | exact q.elim | skip
    obtain ⟨a, vs, rfl, h1, r1⟩ := r.tupE
    exact ⟨a, vs, rfl, hK ▸ (wo_sub _ _).st h1, r1.len.trans q.1, s, R, _, rp, r1, q.2, f⟩
end
abbrev S.own (s : S) (p : Addr) (k : Nat) : S := { s with X := p :: s.X, k := k }
structure NewL (c : C) (s : S) (σ : L2.St) (H : Hp) (p : Addr) (k : Nat) (ds : List D) (H' : Hp) : Prop where
  rep : Rep c (s.own p k) σ H'
  sub : Sub (c.hid s.X H) (c.hid (p :: s.X) H')
  own : ∀ a ∈ s.X, H' a = H a
  out : p ∉ s.X
  out0 : p ∉ c.X0
  new : c.H0 p = none
  vals : ∃ vs, H' p = some (.lst vs) ∧ RlA c.K (c.hid (p :: s.X) H') vs ds
def LF (c : C) (t : DA) : TE := fun σ H Q => ∃ s R, Rep c s σ H ∧ t s R ∧ ∀ ds k, R ds k → ∀ p H', NewL c s σ H p k ds H' → Q (.ref p) H'
abbrev dFr (t : DA) : DE := fun s Q => t s fun ds k => Q (.lst ds) k
theorem hid_cons (c : C) (p : Addr) (X : List Addr) (H : Hp) : Sub (c.hid (p :: X) H) (c.hid X H) := wo_more fun a h => by
  rcases List.mem_append.mp h with h | h
  · exact List.mem_append_left _ h
  · exact List.mem_append_right _ (List.mem_cons_of_mem _ h)
theorem Rep.nofree {c : C} {s : S} {σ : L2.St} {H : Hp} {p : Addr} (r : Rep c s σ H) (hp : H p = none) : p ∉ s.X ∧ p ∉ Ml c.M ∧ p ∉ c.X0 ∧ c.H0 p = none := by
  have h1 : p ∉ s.X := fun z => r.xs p z hp
  have h2 : p ∉ Ml c.M := fun z => r.m.there p z hp
  have h3 : p ∉ c.X0 := fun z => h1 (r.x0 p z)
  refine ⟨h1, h2, h3, ?_⟩
  cases e : c.H0 p with
  | none => rfl
  | some o =>
    by_cases t : NoTb o
    · have q := r.sub p o (wo_of (by intro z; rcases List.mem_append.mp z with z | z; exact h2 z; exact h3 z) e t)
      rw [(wo_ne q).2] at hp
      cases hp
    · exfalso
      refine t fun ps z => ?_
      subst z
      obtain ⟨qs, q⟩ := r.tb.tbl p ps e
      rw [hp] at q
      cases q
theorem Rep.hide {c : C} {s : S} {σ : L2.St} {H : Hp} {p : Addr} {o : HO} (r : Rep c s σ H) (hp : H p = none) (ht : NoTb o := by intro _ z; cases z) : Rep c (s.own p s.k) σ (upd H p o) ∧ Sub (c.hid s.X H) (c.hid (p :: s.X) (upd H p o)) := by
  obtain ⟨n1, n2, n3, n4⟩ := r.nofree hp
  have sb : Sub (c.hid s.X H) (c.hid (p :: s.X) (upd H p o)) := fun a u e => by
    obtain ⟨n, e⟩ := wo_ne e
    have np : a ≠ p := ne_of_none e hp
    refine wo_of (fun z => ?_) (by rw [upd_ne np]; exact e)
    rcases List.mem_append.mp z with z | z
    · exact n (List.mem_append_left _ z)
    · rcases List.mem_cons.mp z with z | z
      · exact np z
      · exact n (List.mem_append_right _ z)
  have eq : ∀ a, H a ≠ none → upd H p o a = H a := fun a h => upd_ne fun z => h (z ▸ hp)
  refine ⟨⟨r.sub.trans sb, fun a ha hm hn => ?_, fun a ha => List.mem_cons_of_mem _ (r.x0 a ha), fun a ha => ?_, fun a ha => ?_, r.m.eq (fun a ha hn => eq a hn) (.new hp), fun i x e => ?_, r.apart, r.len, r.tb.trans (.new hp), fun a ha => (List.mem_cons.mp ha).elim (fun z => by rw [z, upd_same]; exact fun ps e => ht ps (Option.some.inj e)) fun z => by rw [eq a (r.xs a z)]; exact r.xt a z⟩, sb⟩
  · rw [eq a (r.xs a (r.x0 a ha))]; exact r.old a ha hm hn
  · rcases List.mem_cons.mp ha with z | z
    · rw [z]; exact n2
    · exact r.xm a z
  · rcases List.mem_cons.mp ha with z | z
    · rw [z, upd_same]; simp
    · rw [eq a (r.xs a z)]; exact r.xs a z
  · have q := r.slot i x e
    cases x with
    | no => trivial
    | dat d =>
      obtain ⟨v, e, h⟩ := q
      exact ⟨v, e, h.mono sb⟩
    | own w ds =>
      obtain ⟨e, h1, h2, h3, vs, h4, h5⟩ := q
      exact ⟨e, List.mem_cons_of_mem _ h1, h2, h3, vs, by rw [eq w (r.xs w h1)]; exact h4, h5.mono sb⟩
    | mst => exact q
    | scr ns =>
      obtain ⟨v, e, h⟩ := q
      exact ⟨v, e, sb.sl h⟩
theorem Rep.show {c : C} {s : S} {σ : L2.St} {H : Hp} {p : Addr} {k : Nat} (r : Rep c (s.own p k) σ H) (hp : p ∉ s.X) (h0 : p ∉ c.X0) (hs : ∀ (i : Nat) (ds : List D), s.sl[i]? ≠ some (.own p ds)) : Rep c (s.at k) σ H := by
  have sb := hid_cons c p s.X H
  refine ⟨r.sub.trans sb, r.old, fun a ha => ?_, fun a ha => r.xm a (List.mem_cons_of_mem _ ha), fun a ha => r.xs a (List.mem_cons_of_mem _ ha), r.m, fun i x e => ?_, r.apart, r.len, r.tb, fun a ha => r.xt a (List.mem_cons_of_mem _ ha)⟩
  · rcases List.mem_cons.mp (r.x0 a ha) with z | z
    · exact absurd (z ▸ ha) h0
    · exact z
  · have q := r.slot i x e
    cases x with
    | no => trivial
    | dat d =>
      obtain ⟨v, e, h⟩ := q
      exact ⟨v, e, h.mono sb⟩
    | own w ds =>
      obtain ⟨e', h1, h2, h3, vs, h4, h5⟩ := q
      refine ⟨e', ?_, h2, h3, vs, h4, h5.mono sb⟩
      rcases List.mem_cons.mp h1 with z | z
      · exact absurd (z ▸ e) (hs i ds)
      · exact z
    | mst => exact q
    | scr ns =>
      obtain ⟨v, e, h⟩ := q
      exact ⟨v, e, sb.sl h⟩
theorem Rep.noslot {c : C} {s : S} {σ : L2.St} {H : Hp} {p : Addr} (r : Rep c s σ H) (hp : p ∉ s.X) (i : Nat) (ds : List D) : s.sl[i]? ≠ some (.own p ds) := fun e => hp (r.slot i _ e).2.1
section
variable {X : Cx} {c : C}
theorem LF.data {t : DA} {σ : L2.St} {H : Hp} {Q : VK} (h : LE c (dFr t) σ H Q) : LF c t σ H Q := by
  obtain ⟨s, R, rp, q, f⟩ := h
  refine ⟨s, _, rp, q, fun ds k hR p H' n => ?_⟩
  have sb := hid_cons c p s.X H'
  obtain ⟨vs, h1, h2⟩ := n.vals
  refine f _ k hR _ H' (n.rep.show n.out n.out0 (fun i es => rp.noslot n.out i es)) ⟨n.sub.trans sb, n.own⟩ (.lst (wo_of ?_ h1) (h2.mono sb))
  intro z
  rcases List.mem_append.mp z with z | z
  · exact n.rep.xm p List.mem_cons_self z
  · exact n.out z
theorem pd_fr {e : Expr} {t : DA} (h : PE X e (LF c t)) : PE X e (LE c (dFr t)) := h.weak fun σ H Q q => LF.data q
theorem NewL.mk' {s : S} {σ : L2.St} {H H1 : Hp} {k : Nat} {ds : List D} {vs : List V} {p : Addr} (r : Rep c (s.at k) σ H1) (a : AdvE c s.X H H1) (e : RlA c.K (c.hid s.X H1) vs ds) (hp : H1 p = none) : NewL c s σ H p k ds (upd H1 p (.lst vs)) := by
  obtain ⟨n1, n2, n3, n4⟩ := r.nofree hp
  have h := r.hide (o := .lst vs) hp
  exact ⟨h.1, a.sub.trans h.2, fun x hx => by rw [upd_ne (fun z => n1 (show p ∈ s.X by rw [← z]; exact hx))]; exact a.own x hx, n1, n3, n4, vs, upd_same, e.mono h.2⟩
abbrev dLs (t : DA) : DA := fun s Q => t s fun ds k => ds.length ≤ lim ∧ Q ds k
theorem pdf_lst {es : List Expr} {pos : Pos} {t : DA} (h : PA X es (LA c t)) : PE X (.List es pos) (LF c (dLs t)) :=
  (pe_lst h).weak fun σ H Q ⟨s, R, rp, q, f⟩ => ⟨s, _, rp, q, fun ds k ⟨hl, hR⟩ vs H1 r1 a1 e1 => ⟨by rw [e1.len]; exact lim_le hl, fun p hp => f ds k hR p _ (NewL.mk' r1 a1 e1 hp)⟩⟩
end
end DL
namespace DL
open PySem L2
open PySem.W (Frag)
abbrev dLc (it : DI) (g : DG) (tt : DT) (te : DE) (vs : List Nat) : DA := fun s Q => it s fun items k0 => items.length ≤ lim ∧ ∀ p, p ∉ s.X → ∃ Inv : Nat → List D → Nat → Prop, Inv 0 [] k0 ∧
  (∀ i d acc k, items[i]? = some d → Inv i acc k → acc.length ≤ i → g d (((s.own p k).wipe vs)) fun s2 => tt s2 fun b k2 => if b = true then te (s2.at k2) fun y k3 => Inv (i + 1) (acc ++ [y]) k3 else Inv (i + 1) acc k2) ∧
  ∀ acc k, Inv items.length acc k → acc.length ≤ items.length → Q acc k
abbrev dY : DT := fun s Q => Q true s.k
theorem wipe_ext {vs : List Nat} : ∀ {σ τ : L2.St}, σ.length = τ.length → (∀ j, j ∉ vs → σ[j]? = τ[j]?) → wipe σ vs = wipe τ vs := by
  have get : ∀ (vs : List Nat) (σ : L2.St) (j : Nat), (wipe σ vs)[j]? = if j ∈ vs then (if j < σ.length then some none else none) else σ[j]? := by
    intro vs
    induction vs with
    | nil => intro σ j; simp [wipe]
    | cons v r ih =>
      intro σ j
      show ((wipe σ r).set v none)[j]? = _
      by_cases e : v = j
      · subst e
        by_cases hl : v < σ.length
        · rw [List.getElem?_set_self (by rw [wipe_length]; exact hl)]
          simp [hl]
        · rw [List.getElem?_eq_none (by rw [List.length_set, wipe_length]; omega)]
          simp [hl]
      · rw [List.getElem?_set_ne e, ih]
        have : j ≠ v := fun z => e z.symm
        simp [this]
  intro σ τ hl h
  refine List.ext_getElem? fun j => ?_
  rw [get, get]
  by_cases hj : j ∈ vs
  · simp [hj, hl]
  · simp [hj, h j hj]
theorem pts_none {X : Cx} {c : C} : PTs X [] (LT c dY) := ⟨fun pins s σ H Q I ⟨st, R, rp, q, f⟩ => pts_nil.run pins s σ H Q I (f _ _ q H rp AdvE.refl)⟩
theorem ptsd_one {X : Cx} {c : C} {e : Expr} {t : DT} (h : PT X e (LT c t)) : PTs X [e] (LT c t) := pts_one h
theorem lc_imp {c : C} {own : List (PySem.Str × Nat)} {wi : DI} {g : DG} {tt : DT} {te : DE} {ts : List Nat} (hts : ∀ j ∈ ts, j ∈ own.map (·.2)) (σ : L2.St) (H : Hp) (Q : VK) (h : LF c (dLc wi g tt te (own.map (·.2))) σ H Q) :
    tLc (LI c wi) (LG c ts g) (LT c tt) (LE c te) (own.map (·.2)) σ H Q := by
    obtain ⟨s, R, rp, q, f⟩ := h
    refine ⟨s, _, rp, q, fun items k0 hz J H1 r1 a1 yl D hD => ?_⟩
    obtain ⟨hl, hz⟩ := hz
    obtain ⟨n1, n2, n3, n4⟩ := r1.nofree hD
    obtain ⟨Inv, i0, turn, fin⟩ := hz D n1
    have hid0 := r1.hide (o := .lst []) hD
    -- the state at turn i: D holds the values of acc
    refine ⟨fun i m H' => m = items.length - i ∧ i ≤ items.length ∧ ∃ acc vs k, Inv i acc k ∧ acc.length ≤ i ∧ H' D = some (.lst vs) ∧ Rep c (s.own D k) σ H' ∧ Sub (c.hid s.X H1) (c.hid (D :: s.X) H') ∧ (∀ a ∈ s.X, H' a = H1 a) ∧ RlA c.K (c.hid (D :: s.X) H') vs acc,
      ⟨items.length, by simp, Nat.zero_le _, [], [], k0, i0, Nat.le_refl _, upd_same, hid0.1, hid0.2, fun a ha => upd_ne fun z => n1 (show D ∈ s.X by rw [← z]; exact ha), .nil⟩, ?_⟩
    rintro i m H' ⟨rfl, hi', acc, vs, k, hI, hlen, hD', rp', sb, ow, ra⟩
    obtain ⟨yl1, yl2⟩ := yl i (s.own D k) σ H' rp' sb
    by_cases hlt : i < items.length
    · obtain ⟨d, hd⟩ : ∃ d, items[i]? = some d := ⟨items[i], by simp [hlt]⟩
      obtain ⟨go, yd⟩ := yl2 d hd
      refine .inr ⟨go, fun H'' => ∃ acc vs k, Inv (i + 1) acc k ∧ acc.length ≤ i + 1 ∧ H'' D = some (.lst vs) ∧ Rep c (s.own D k) σ H'' ∧ Sub (c.hid s.X H1) (c.hid (D :: s.X) H'') ∧ (∀ a ∈ s.X, H'' a = H1 a) ∧ RlA c.K (c.hid (D :: s.X) H'') vs acc,
        fun H'' ⟨acc, vs, k, h⟩ => ⟨items.length - (i + 1), by omega, rfl, hlt, acc, vs, k, h⟩, fun x H2 hy => ?_⟩
      obtain ⟨r2, a2, e2⟩ := yd x H2 hy
      have xw : ((s.own D k).wipe (own.map (·.2))).X = D :: s.X := ((s.own D k).wipe_X _).1
      refine ⟨(s.own D k).wipe (own.map (·.2)), _, d, r2.wipe _, by rw [xw]; exact e2, turn i d acc k hd hI hlen, fun s3 h3 σ3 H3 r3 a3 x3 k3 l3 => ?_⟩
      have x3' : s3.X = D :: s.X := x3.trans xw
      have a3' : AdvE c (D :: s.X) H2 H3 := xw ▸ a3
      have we : wipe σ3 (own.map (·.2)) = wipe σ (own.map (·.2)) := by
        have q1 : wipe σ3 (own.map (·.2)) = wipe (wipe σ (own.map (·.2))) (own.map (·.2)) := wipe_ext l3 fun j hj => k3 j fun z => hj (hts j z)
        rw [q1]
        refine wipe_ext (wipe_length _ _) fun j hj => ?_
        have := @wipe_ext (own.map (·.2))
        -- outside the own slots nothing is wiped
        have aux : ∀ (vs : List Nat), (∀ v ∈ vs, v ∈ own.map (·.2)) → (wipe σ vs)[j]? = σ[j]? := by
          intro vs
          induction vs with
          | nil => intro _; rfl
          | cons v r ih =>
            intro hv
            show ((wipe σ r).set v none)[j]? = _
            rw [List.getElem?_set_ne (fun z => hj (show j ∈ own.map (·.2) by rw [← z]; exact hv v List.mem_cons_self)), ih fun w hw => hv w (List.mem_cons_of_mem _ hw)]
        exact aux _ fun _ h => h
      refine ⟨we, ?_⟩
      -- back to the frame's slots: what the block knows of σ3 is not asked any more
      have back : ∀ {k' : Nat} {H4 : Hp}, Rep c (s3.at k') σ3 H4 → AdvE c (D :: s.X) H3 H4 → Rep c (s.own D k') σ H4 := fun {k' H4} r4 a4 => by
        have st : Sub (c.hid (D :: s.X) H') (c.hid (D :: s.X) H4) := (a2.sub.trans a3'.sub).trans a4.sub
        exact rp'.step (k := k') st (fun a ha _ => ((a4.own a ha).trans (a3'.own a ha)).trans (a2.own a ha)) r4.m r4.tb
      refine ⟨s3, _, r3, h3, fun b k4 h4 H4 r4 a4 => ?_⟩
      have a4' : AdvE c (D :: s.X) H3 H4 := x3' ▸ a4
      have D4 : H4 D = some (.lst vs) := by rw [a4'.own D List.mem_cons_self, a3'.own D List.mem_cons_self, a2.own D List.mem_cons_self]; exact hD'
      have st4 : Sub (c.hid (D :: s.X) H') (c.hid (D :: s.X) H4) := (a2.sub.trans a3'.sub).trans a4'.sub
      have ow4 : ∀ a ∈ D :: s.X, H4 a = H' a := fun a ha => ((a4'.own a ha).trans (a3'.own a ha)).trans (a2.own a ha)
      cases b with
      | false =>
        have h4 : Inv (i + 1) acc k4 := h4
        exact iteF ⟨acc, vs, k4, h4, by omega, D4, back r4 a4', sb.trans st4, fun a ha => (ow4 a (List.mem_cons_of_mem _ ha)).trans (ow a ha), ra.mono st4⟩
      | true =>
        have h4 : te (s3.at k4) fun y k3 => Inv (i + 1) (acc ++ [y]) k3 := h4
        refine iteT ⟨s3.at k4, _, r4, h4, fun y k5 h5 v5 H5 r5 a5 e5 => ?_⟩
        have a5' : AdvE c (D :: s.X) H4 H5 := x3' ▸ a5
        have D5 : H5 D = some (.lst vs) := by rw [a5'.own D List.mem_cons_self]; exact D4
        have st5 : Sub (c.hid (D :: s.X) H') (c.hid (D :: s.X) H5) := st4.trans a5'.sub
        refine ⟨vs, D5, by rw [ra.len]; exact lim_lt (by omega), acc ++ [y], vs ++ [v5], k5, h5, by rw [List.length_append, List.length_singleton]; omega, upd_same, ?_, ?_, ?_, ?_⟩
        · have rr : Rep c (s.own D k5) σ H5 := back r5 ⟨a4'.sub.trans a5'.sub, fun a ha => (a5'.own a ha).trans (a4'.own a ha)⟩
          -- D's content is in no slot
          have no := fun i ds => rp.noslot n1 i ds
          refine ⟨rr.sub.trans (wo_mut (List.mem_append_right _ List.mem_cons_self)), fun a ha hm hn => ?_, rr.x0, rr.xm, fun a ha => ?_, rr.m.eq (fun a ha _ => upd_ne fun z => n2 (show D ∈ Ml c.M by rw [← z]; exact ha)) (.at_ D5), fun j x e => ?_, rr.apart, rr.len, rr.tb.trans (.at_ D5), fun a ha => by
            by_cases z : a = D
            · rw [z, upd_same]; exact fun _ e => by cases e
            · rw [upd_ne z]; exact rr.xt a ha⟩
          · rw [upd_ne fun z => n3 (show D ∈ c.X0 by rw [← z]; exact ha)]
            exact rr.old a ha hm hn
          · by_cases z : a = D
            · rw [z, upd_same]; simp
            · rw [upd_ne z]; exact rr.xs a ha
          · have q := rr.slot j x e
            have sm : Sub (c.hid (D :: s.X) H5) (c.hid (D :: s.X) (upd H5 D (.lst (vs ++ [v5])))) := wo_mut (List.mem_append_right _ List.mem_cons_self)
            cases x with
            | no => trivial
            | dat d =>
              obtain ⟨v, e, h⟩ := q
              exact ⟨v, e, h.mono sm⟩
            | own w ds =>
              obtain ⟨e', h1, h2, h3, ws, h4, h5⟩ := q
              have nw : w ≠ D := fun z => no j ds (z ▸ e)
              exact ⟨e', h1, h2, h3, ws, by rw [upd_ne nw]; exact h4, h5.mono sm⟩
            | mst => exact q
            | scr ns =>
              obtain ⟨v, e, h⟩ := q
              exact ⟨v, e, sm.sl h⟩
        · exact (sb.trans st5).trans (wo_mut (List.mem_append_right _ List.mem_cons_self))
        · intro a ha
          rw [upd_ne fun z => n1 (show D ∈ s.X by rw [← z]; exact ha), a5'.own a (List.mem_cons_of_mem _ ha), ow4 a (List.mem_cons_of_mem _ ha)]
          exact ow a ha
        · exact ((ra.mono st5).app (.cons (by rw [x3'] at e5; exact e5) .nil)).mono (wo_mut (List.mem_append_right _ List.mem_cons_self))
    · have e : i = items.length := by omega
      subst e
      exact .inl ⟨yl1 (Nat.le_refl _), f acc k (fin acc k hI hlen) D H' ⟨rp', a1.sub.trans sb, fun a ha => (ow a ha).trans (a1.own a ha), n1, n3, n4, vs, hD', ra⟩⟩
theorem pdf_lc {X : Cx} {c : C} {elt tg iter : Expr} {ifs : List Expr} {scope : Scope} {own : List (PySem.Str × Nat)} {pos : Pos} {wi : DI} {g : DG} {tt : DT} {te : DE} {ts : List Nat} (hc : X.calm = true) (hN : X.N.Nodup) (hi : PI X tg iter (LI c wi)) (ok : BlkOk X.N X.env.scope scope own)
    (hg : ∀ (s : Shared) (H : Hp) (C : Addr) (cl : List (PySem.Str × Addr)) (fp : List Addr), PG (X.blk s H scope (compEnvC scope cl C X.env) fp) tg (LG c ts g)) (ht : ∀ (s : Shared) (H : Hp) (C : Addr) (cl : List (PySem.Str × Addr)) (fp : List Addr), PTs (X.blk s H scope (compEnvC scope cl C X.env) fp) ifs (LT c tt))
    (he : ∀ (s : Shared) (H : Hp) (C : Addr) (cl : List (PySem.Str × Addr)) (fp : List Addr), PE (X.blk s H scope (compEnvC scope cl C X.env) fp) elt (LE c te)) (hts : ∀ j ∈ ts, j ∈ own.map (·.2) := by decide) (hs : ∀ x, foldedSetIterable iter X.env x = pure x := by intro _; rfl) :
    PE X (.ListComp elt [⟨tg, iter, ifs, 0⟩] scope pos) (LF c (dLc wi g tt te (own.map (·.2)))) :=
  (pe_lc hc hN hi ok hg ht he hs).weak fun σ H Q h => lc_imp hts σ H Q h
end DL
namespace DL
open PySem L2
open PySem.W (Frag)
structure DEnds where
  nx : S → Prop
  rt : D → Nat → Prop
  bk : S → Prop := fun _ => False
  ct : S → Prop := fun _ => False
abbrev DS := DEnds → S → Prop
def Adv' (c : C) (X : List Addr) (H : Hp) (X' : List Addr) (H' : Hp) : Prop := Sub (c.hid X H) (c.hid X' H')
structure Fin (c : C) (H' : Hp) (k : Nat) : Prop where
  sub : Sub (c.hid c.X0 c.H0) (c.hid c.X0 H')
  old : ∀ a ∈ c.X0, a ∉ Ml c.M → c.H0 a ≠ none → H' a = c.H0 a
  m : MAt c.M H' k
  tb : TbK c.H0 H'
structure Fits (c : C) (X : List Addr) (H : Hp) (DD : DEnds) (D : Ends) : Prop where
  nx : ∀ s' σ' H', Rep c s' σ' H' → Adv' c X H s'.X H' → DD.nx s' → D.nx σ' H'
  bk : ∀ s' σ' H', Rep c s' σ' H' → Adv' c X H s'.X H' → DD.bk s' → D.bk σ' H'
  ct : ∀ s' σ' H', Rep c s' σ' H' → Adv' c X H s'.X H' → DD.ct s' → D.ct σ' H'
  rt : ∀ d k v H', Fin c H' k → Rl c.K (c.hid c.X0 H') v d → DD.rt d k → D.rt v H'
def LS (c : C) (t : DS) : TS := fun D σ H => ∃ s DD, Rep c s σ H ∧ t DD s ∧ Fits c s.X H DD D
theorem Fits.on {c : C} {X X1 : List Addr} {H H1 : Hp} {DD : DEnds} {D : Ends} (f : Fits c X H DD D) (a : Adv' c X H X1 H1) : Fits c X1 H1 DD D :=
  ⟨fun s σ H' r b q => f.nx s σ H' r (a.trans b) q, fun s σ H' r b q => f.bk s σ H' r (a.trans b) q, fun s σ H' r b q => f.ct s σ H' r (a.trans b) q, f.rt⟩
theorem Rep.sub0 {c : C} {s : S} {σ : L2.St} {H : Hp} (r : Rep c s σ H) : Sub (c.hid s.X H) (c.hid c.X0 H) := wo_more fun a h => by
  rcases List.mem_append.mp h with h | h
  · exact List.mem_append_left _ h
  · exact List.mem_append_right _ (r.x0 a h)
theorem Rep.fin {c : C} {s : S} {σ : L2.St} {H : Hp} (r : Rep c s σ H) : Fin c H s.k := ⟨r.sub.trans r.sub0, r.old, r.m, r.tb⟩
abbrev dNext : DS := fun DD s => DD.nx s
abbrev dSeq (t u : DS) : DS := fun DD s => t { DD with nx := u DD } s
abbrev dSet (i : Nat) (t : DE) : DS := fun DD s => t s fun d k => DD.nx ((s.put i (.dat d)).at k)
abbrev dAsg (t : DE) (g : DG) : DS := fun DD s => t s fun d k => g d (s.at k) DD.nx
abbrev dSetO (i : Nat) (t : DA) : DS := fun DD s => t s fun ds k => ∀ p, p ∉ s.X → DD.nx ((s.own p k).put i (.own p ds))
@[reducible] def Sl.frz : Sl → Sl
  | .own _ ds => .dat (.lst ds)
  | x => x
abbrev dRet (t : DE) : DS := fun DD s => ∀ X, t ⟨X, s.sl.map Sl.frz, s.k⟩ fun d k => DD.rt d k
abbrev dIfS (c : DT) (t u : DS) : DS := fun DD s => c s fun b k => if b = true then t DD (s.at k) else u DD (s.at k)
abbrev dDrop (t : DE) : DS := fun DD s => t s fun _ k => DD.nx (s.at k)
abbrev dFor (it : DI) (g : DG) (body : DS) : DS := fun DD s => it s fun items k0 => ∃ Inv : Nat → S → Prop, Inv 0 (s.at k0) ∧
  (∀ i d s', items[i]? = some d → Inv i s' → g d s' fun s2 => body { DD with nx := Inv (i + 1), ct := Inv (i + 1), bk := DD.nx } s2) ∧ ∀ s', Inv items.length s' → DD.nx s'
theorem Rep.frz {c : C} {s : S} {σ : L2.St} {H : Hp} (r : Rep c s σ H) : Rep c ⟨c.X0, s.sl.map Sl.frz, s.k⟩ σ H := by
  refine ⟨r.sub.trans r.sub0, r.old, fun a h => h, fun a h => r.xm a (r.x0 a h), fun a h => r.xs a (r.x0 a h), r.m, fun i x e => ?_, fun i j p q ds es e1 _ _ => ?_, by show (s.sl.map Sl.frz).length = _; rw [List.length_map]; exact r.len, r.tb, fun a h => r.xt a (r.x0 a h)⟩
  · have e : (s.sl.map Sl.frz)[i]? = some x := e
    rw [List.getElem?_map] at e
    cases h : s.sl[i]? with
    | none => rw [h] at e; cases e
    | some y =>
      rw [h] at e
      obtain rfl : Sl.frz y = x := Option.some.inj e
      have q := r.slot i y h
      cases y with
      | no => trivial
      | dat d =>
        obtain ⟨v, e, h⟩ := q
        exact ⟨v, e, h.mono r.sub0⟩
      | own p ds =>
        obtain ⟨e', h1, h2, h3, vs, h4, h5⟩ := q
        refine ⟨_, e', .lst (wo_of (fun z => ?_) h4) (h5.mono r.sub0)⟩
        rcases List.mem_append.mp z with z | z
        · exact r.xm p h1 z
        · exact h2 z
      | mst => exact q
      | scr ns =>
        obtain ⟨v, e, h⟩ := q
        exact ⟨v, e, r.sub0.sl h⟩
  · have e1 : (s.sl.map Sl.frz)[i]? = some (.own p ds) := e1
    rw [List.getElem?_map] at e1
    cases h : s.sl[i]? with
    | none => rw [h] at e1; cases e1
    | some y => rw [h] at e1; cases y <;> cases e1
section
variable {X : Cx} {c : C} {pos : Pos}
theorem psd_nil : PSs X [] (LS c dNext) := pss_nil.weak fun D σ H ⟨s, DD, rp, q, f⟩ => f.nx s σ H rp (Sub.refl _) q
theorem psd_cons {st : Stmt} {r : List Stmt} {t u : DS} (h1 : PS X st (LS c t)) (h2 : PSs X r (LS c u)) : PSs X (st :: r) (LS c (dSeq t u)) :=
  (pss_cons h1 h2).weak fun D σ H ⟨s, DD, rp, q, f⟩ => ⟨s, { DD with nx := u DD }, rp, q, ⟨fun s' σ' H' r' a q' => ⟨s', DD, r', q', f.on a⟩, f.bk, f.ct, f.rt⟩⟩
theorem psd_one {st : Stmt} {t : DS} (h1 : PS X st (LS c t)) : PSs X [st] (LS c t) := pss_one h1
theorem psd_never {st : Stmt} : PS X st (LS c (fun _ _ => False)) := ⟨fun _ _ _ _ _ _ ⟨_, _, _, q, _⟩ => q.elim⟩
theorem pssd_never {st : List Stmt} : PSs X st (LS c (fun _ _ => False)) := ⟨fun _ _ _ _ _ _ ⟨_, _, _, q, _⟩ => q.elim⟩
theorem psd_set (i : Nat) {x : PySem.Str} {e : Expr} {t : DE} {pos' : Pos} (hN : X.N.Nodup) (he : PE X e (LE c t)) (hi : X.N[i]? = some x := by rfl) (hx : Loc X.env.scope x := by first | exact Or.inl rfl | exact Or.inr rfl) (hs : swapsWith e (some (.Name x pos')) pos.line X.env = pure false := by rfl) (hf : X.fn x = true ∨ X.env.scope.names.lookup x = some .local := by first | exact .inl rfl | exact .inr rfl) :
    PS X (.Assign [.Name x pos'] e pos) (LS c (dSet i t)) :=
  (ps_set hN hi hx he hs hf).weak fun D σ H ⟨s, DD, rp, q, f⟩ => ⟨s, _, rp, q, fun d k h v H1 r1 a1 e1 => f.nx _ _ H1 (r1.putD e1) a1.sub h⟩
theorem psd_asg {tg e : Expr} {t : DE} {g : DG} {ts : List Nat} (he : PE X e (LE c t)) (hg : PG X tg (LG c ts g)) (hs : swapsWithSole [tg] e pos.line X.env = pure false := by rfl) (hw : swappedStores [tg] e X.env = pure none := by rfl)
    (h1 : (assignEach [tg] X.env).map (·.2) = [assign tg X.env] := by rfl) : PS X (.Assign [tg] e pos) (LS c (dAsg t g)) :=
  (ps_asg he hg hs hw h1).weak fun D σ H ⟨s, DD, rp, q, f⟩ => ⟨s, _, rp, q, fun d k h v H1 r1 a1 e1 => ⟨s.at k, _, d, r1, e1, h, fun s2 q2 σ2 H2 r2 a2 x2 _ _ => f.nx s2 σ2 H2 r2 (a1.sub.trans (x2 ▸ a2.sub)) q2⟩⟩
theorem NewL.put {s : S} {σ : L2.St} {H : Hp} {p : Addr} {k : Nat} {ds : List D} {H' : Hp} (n : NewL c s σ H p k ds H') (rp : Rep c s σ H) (i : Nat) : Rep c ((s.own p k).put i (.own p ds)) (σ.set i (some (.ref p))) H' :=
  n.rep.put ⟨rfl, List.mem_cons_self, n.out0, n.new, n.vals⟩ fun q es e j q' es' e' _ => by
    cases e
    exact fun z => rp.noslot n.out j es' (z ▸ e')
theorem psd_setO (i : Nat) {x : PySem.Str} {e : Expr} {t : DA} {pos' : Pos} (how : c.ow.contains i = true) (hN : X.N.Nodup) (he : PE X e (LF c t)) (hi : X.N[i]? = some x := by rfl) (hx : Loc X.env.scope x := by first | exact Or.inl rfl | exact Or.inr rfl) (hs : swapsWith e (some (.Name x pos')) pos.line X.env = pure false := by rfl) (hf : X.fn x = true ∨ X.env.scope.names.lookup x = some .local := by first | exact .inl rfl | exact .inr rfl) :
    PS X (.Assign [.Name x pos'] e pos) (LS c (dSetO i t)) :=
  (ps_set hN hi hx he hs hf).weak fun D σ H ⟨s, DD, rp, q, f⟩ => ⟨s, _, rp, q, fun ds k h p H1 n => f.nx _ _ H1 (n.put rp i) n.sub (h p n.out)⟩
theorem psd_setLc (i : Nat) {y : PySem.Str} {py : Pos} {elt tg iter : Expr} {ifs : List Expr} {scope : Scope} {own : List (PySem.Str × Nat)} {wi : DI} {g : DG} {tt : DT} {te : DE} {ts : List Nat} {lpos spos : Pos} (hc : X.calm = true) (hN : X.N.Nodup) (hi : PI X tg iter (LI c wi)) (ok : BlkOk X.N X.env.scope scope own)
    (hg : ∀ (s : Shared) (H : Hp) (C : Addr) (cl : List (PySem.Str × Addr)) (fp : List Addr), PG (X.blk s H scope (compEnvC scope cl C X.env) fp) tg (LG c ts g)) (ht : ∀ (s : Shared) (H : Hp) (C : Addr) (cl : List (PySem.Str × Addr)) (fp : List Addr), PTs (X.blk s H scope (compEnvC scope cl C X.env) fp) ifs (LT c tt))
    (he : ∀ (s : Shared) (H : Hp) (C : Addr) (cl : List (PySem.Str × Addr)) (fp : List Addr), PE (X.blk s H scope (compEnvC scope cl C X.env) fp) elt (LE c te)) (hy : X.N[i]? = some y := by rfl) (hyl : X.env.scope.names.lookup y = some .local := by rfl)
    (hsw : swapsWith (.ListComp elt [⟨tg, iter, ifs, 0⟩] scope lpos) (some (.Name y py)) spos.line X.env = pure true := by exact sw_true rfl rfl rfl (by decide +kernel)) (hts : ∀ j ∈ ts, j ∈ own.map (·.2) := by decide) (hs : ∀ x, foldedSetIterable iter X.env x = pure x := by intro _; rfl) :
    PS X (.Assign [.Name y py] (.ListComp elt [⟨tg, iter, ifs, 0⟩] scope lpos) spos) (LS c (dSet i (dFr (dLc wi g tt te (own.map (·.2)))))) :=
  (ps_setLc hc hN hy hyl hsw hi ok hg ht he hs).weak fun D σ H ⟨s, DD, rp, q, f⟩ => lc_imp hts σ H _ (LF.data ⟨s, _, rp, q, fun d k h v H1 r1 a1 e1 => f.nx _ _ H1 (r1.putD e1) a1.sub h⟩)
theorem psd_setLcO (i : Nat) {y : PySem.Str} {py : Pos} {elt tg iter : Expr} {ifs : List Expr} {scope : Scope} {own : List (PySem.Str × Nat)} {wi : DI} {g : DG} {tt : DT} {te : DE} {ts : List Nat} {lpos spos : Pos} (hc : X.calm = true) (hN : X.N.Nodup) (hi : PI X tg iter (LI c wi)) (ok : BlkOk X.N X.env.scope scope own)
    (hg : ∀ (s : Shared) (H : Hp) (C : Addr) (cl : List (PySem.Str × Addr)) (fp : List Addr), PG (X.blk s H scope (compEnvC scope cl C X.env) fp) tg (LG c ts g)) (ht : ∀ (s : Shared) (H : Hp) (C : Addr) (cl : List (PySem.Str × Addr)) (fp : List Addr), PTs (X.blk s H scope (compEnvC scope cl C X.env) fp) ifs (LT c tt))
    (he : ∀ (s : Shared) (H : Hp) (C : Addr) (cl : List (PySem.Str × Addr)) (fp : List Addr), PE (X.blk s H scope (compEnvC scope cl C X.env) fp) elt (LE c te)) (hy : X.N[i]? = some y := by rfl) (hyl : X.env.scope.names.lookup y = some .local := by rfl)
    (hsw : swapsWith (.ListComp elt [⟨tg, iter, ifs, 0⟩] scope lpos) (some (.Name y py)) spos.line X.env = pure true := by exact sw_true rfl rfl rfl (by decide +kernel)) (hts : ∀ j ∈ ts, j ∈ own.map (·.2) := by decide) (hs : ∀ x, foldedSetIterable iter X.env x = pure x := by intro _; rfl) :
    PS X (.Assign [.Name y py] (.ListComp elt [⟨tg, iter, ifs, 0⟩] scope lpos) spos) (LS c (dSetO i (dLc wi g tt te (own.map (·.2))))) :=
  (ps_setLc hc hN hy hyl hsw hi ok hg ht he hs).weak fun D σ H ⟨s, DD, rp, q, f⟩ => lc_imp hts σ H _ ⟨s, _, rp, q, fun ds k h p H1 n => f.nx _ _ H1 (n.put rp i) n.sub (h p n.out)⟩
theorem psd_ret {e : Expr} {t : DE} (he : PE X e (LE c t)) : PS X (.Return (some e) pos) (LS c (dRet t)) :=
  (ps_ret he).weak fun D σ H ⟨s, DD, rp, q, f⟩ => ⟨_, _, rp.frz, q c.X0, fun d k h v H1 r1 a1 e1 => f.rt d k v H1 r1.fin e1 h⟩
theorem psd_if {t : Expr} {a b : List Stmt} {tt : DT} {ta tb : DS} (ht : PT X t (LT c tt)) (ha : PSs X a (LS c ta)) (hb : PSs X b (LS c tb)) : PS X (.If t a b pos) (LS c (dIfS tt ta tb)) :=
  (ps_if ht ha hb).weak fun D σ H ⟨s, DD, rp, q, f⟩ => ⟨s, _, rp, q, fun x k h H1 r1 a1 => by
    cases x with
    | true => exact ⟨s.at k, DD, r1, h, f.on a1.sub⟩
    | false => exact ⟨s.at k, DD, r1, h, f.on a1.sub⟩⟩
theorem psd_expr {e : Expr} {t : DE} (he : PE X e (LE c t)) (hs : swapsWith e none pos.line X.env = pure false := by rfl) : PS X (.Expr e pos) (LS c (dDrop t)) :=
  (ps_expr he hs).weak fun D σ H ⟨s, DD, rp, q, f⟩ => ⟨s, _, rp, q, fun d k h v H1 r1 a1 e1 => f.nx _ σ H1 r1 a1.sub h⟩
theorem psd_for {tg iter : Expr} {body : List Stmt} {it : DI} {g : DG} {tb : DS} {ts : List Nat} (hp : PassesOwn (model X.prog X.w) X.A X.env X.xe) (hc : X.calm = true) (hi : PI X tg iter (LI c it)) (hg : PG X tg (LG c ts g)) (hb : PSs X body (LS c tb))
    (hs : ∀ x, foldedSetIterable iter X.env x = pure x := by intro _; rfl) : PS X (.For tg iter body [] pos) (LS c (dFor it g tb)) :=
  (ps_for hp hc hi hg hb hs).weak fun D σ H ⟨s, DD, rp, q, f⟩ => by
    refine ⟨s, _, rp, q, fun items k0 ⟨IV, i0, turn, fin⟩ J H1 r1 a1 yl => ?_⟩
    refine ⟨fun i m σ' H' => m = items.length - i ∧ i ≤ items.length ∧ ∃ s', IV i s' ∧ Rep c s' σ' H' ∧ Adv' c s.X H1 s'.X H', ⟨items.length, by simp, Nat.zero_le _, s.at k0, i0, r1, Sub.refl _⟩, ?_⟩
    rintro i m σ' H' ⟨rfl, hi', s', hI, rp', ad⟩
    obtain ⟨yl1, yl2⟩ := yl i s' σ' H' rp' ad
    by_cases hlt : i < items.length
    · obtain ⟨d, hd⟩ : ∃ d, items[i]? = some d := ⟨items[i], by simp [hlt]⟩
      obtain ⟨go, yd⟩ := yl2 d hd
      refine .inr ⟨go, fun σ2 H2 => ∃ s', IV (i + 1) s' ∧ Rep c s' σ2 H2 ∧ Adv' c s.X H1 s'.X H2, fun σ2 H2 ⟨s2, h⟩ => ⟨items.length - (i + 1), by omega, rfl, hlt, s2, h⟩, fun x H2 hy => ?_⟩
      obtain ⟨r2, a2, e2⟩ := yd x H2 hy
      refine ⟨s', _, d, r2, e2, turn i d s' hd hI, fun s3 h3 σ3 H3 r3 a3 x3 _ _ => ?_⟩
      have ad3 : Adv' c s.X H1 s3.X H3 := (ad.trans a2.sub).trans (x3 ▸ a3.sub)
      exact ⟨s3, _, r3, h3, ⟨fun s4 σ4 H4 r4 a4 h4 => ⟨s4, h4, r4, ad3.trans a4⟩, fun s4 σ4 H4 r4 a4 h4 => f.nx s4 σ4 H4 r4 (a1.sub.trans (ad3.trans a4)) h4, fun s4 σ4 H4 r4 a4 h4 => ⟨s4, h4, r4, ad3.trans a4⟩, f.rt⟩⟩
    · have e : i = items.length := by omega
      subst e
      exact .inl ⟨yl1 (Nat.le_refl _), f.nx s' σ' H' rp' (a1.sub.trans ad) (fin s' hI)⟩
end
end DL
namespace DL
open PySem L2
open PySem.W (Frag)
@[reducible] def S.seq (s : S) (i : Nat) : Option (List D) := match s.sl[i]? with
  | some (.own _ ds) => some ds
  | some (.dat d) => d.items
  | _ => none
theorem Rep.seq {c : C} {s : S} {σ : L2.St} {H : Hp} {i : Nat} {ds : List D} (r : Rep c s σ H) (h : s.seq i = some ds) : ∃ a vs, σ[i]? = some (some (.ref a)) ∧ (SqL c.K H a vs ∨ SqT c.K H a vs) ∧ RlA c.K (c.hid s.X H) vs ds := by
  unfold S.seq at h
  cases e : s.sl[i]? with
  | none => rw [e] at h; cases h
  | some x =>
    rw [e] at h
    have q := r.slot i x e
    cases x with
    | no => cases h
    | mst => cases h
    | scr ns => cases h
    | dat d =>
      obtain ⟨v, e1, h1⟩ := q
      obtain ⟨a, vs, rfl, h2, h3⟩ := h1.items h
      exact ⟨a, vs, e1, sq_all (wo_sub _ _) h2, h3⟩
    | own p es =>
      cases h
      obtain ⟨e1, _, _, _, vs, h4, h5⟩ := q
      exact ⟨p, vs, e1, .inl (SqL.of h4), h5⟩
abbrev dLenN (i : Nat) : DE := fun s Q => ∃ ds, s.seq i = some ds ∧ Q (.int ds.length) s.k
abbrev dIxN (i : Nat) (t : DE) : DE := fun s Q => ∃ ds, s.seq i = some ds ∧ t s fun d k => ∃ j e, d = .int j ∧ atI ds j = some e ∧ Q e k
abbrev dTupN (i : Nat) : DE := fun s Q => ∃ ds, s.seq i = some ds ∧ Q (.tup ds) s.k
theorem S.seq_kind {c : C} {s : S} {σ : L2.St} {H : Hp} {i : Nat} {ds : List D} (r : Rep c s σ H) (h : s.seq i = some ds) : (∃ a vs, σ[i]? = some (some (.ref a)) ∧ H a = some (.lst vs) ∧ RlA c.K (c.hid s.X H) vs ds) ∨ ∃ v, σ[i]? = some (some v) ∧ Rl c.K (c.hid s.X H) v (.tup ds) := by
  unfold S.seq at h
  cases e : s.sl[i]? with
  | none => rw [e] at h; cases h
  | some x =>
    rw [e] at h
    have q := r.slot i x e
    cases x with
    | no => cases h
    | mst => cases h
    | scr ns => cases h
    | dat d =>
      obtain ⟨v, e1, h1⟩ := q
      cases d <;> first | cases h | skip
      · obtain ⟨a, vs, rfl, h2, h3⟩ := h1.lstE
        exact .inl ⟨a, vs, e1, wo_sub _ _ _ _ h2, h3⟩
      · exact .inr ⟨v, e1, h1⟩
    | own p es =>
      cases h
      obtain ⟨e1, _, _, _, vs, h4, h5⟩ := q
      exact .inl ⟨p, vs, e1, h4, h5⟩
abbrev dLstN (i : Nat) : DA := fun s Q => ∃ ds, s.seq i = some ds ∧ Q ds s.k
section
variable {X : Cx} {c : C} {pos p : Pos}
theorem pd_lenN (hK : c.K = X.K) (hm : X.mg "len" = none) (i : Nat) {x : PySem.Str} {pn : Pos} (hN : X.N[i]? = some x := by rfl) (hv : Vis X.env.scope x := by first | exact Or.inl rfl | exact Or.inr (Or.inl rfl) | exact Or.inr (Or.inr rfl)) (hd : (x == ("__debug__" : PySem.Str)) = false := by decide) (hcd : (x == ("__classdict__" : PySem.Str)) = false := by decide)
    (hg : Gl X "len" := by rfl) (hs : starEach [Expr.Name x pn] X.env = (false, eval (Expr.Name x pn) X.env) :: starEach [] X.env := by rfl) (hp : (backTo pos (starEach [] X.env)).any (·.1) = false := by rfl) :
    PE X (.Call (.Name "len" p) [.Name x pn] [] pos) (LE c (dLenN i)) :=
  (pe_callB call_len_seq hg hm PySem.boot_len (pa_cons (pe_var hN hv hd hcd) pa_nil hs) (he := hs) (hpl := hp)).weak fun σ H Q ⟨s, R, rp, ⟨ds, h1, h2⟩, f⟩ => by
    obtain ⟨a, vs, e, h, r⟩ := rp.seq h1
    exact ⟨_, e, a, vs, rfl, hK ▸ h, by rw [r.len]; exact f _ _ h2 _ H rp AdvE.refl (.int _)⟩
theorem pd_ixN (hK : c.K = X.K) (i : Nat) {x : PySem.Str} {pn : Pos} {b : Expr} {t : DE} (hb : PE X b (LE c t)) (hN : X.N[i]? = some x := by rfl) (hv : Vis X.env.scope x := by first | exact Or.inl rfl | exact Or.inr (Or.inl rfl) | exact Or.inr (Or.inr rfl)) (hd : (x == ("__debug__" : PySem.Str)) = false := by decide) (hcd : (x == ("__classdict__" : PySem.Str)) = false := by decide) (hs : PlainIx b := by exact fun _ _ => rfl) :
    PE X (.Subscript (.Name x pn) b pos) (LE c (dIxN i t)) :=
  (pe_ix ix_seq (pe_var hN hv hd hcd) hb hs).weak fun σ H Q ⟨s, R, rp, ⟨ds, h2, q⟩, f⟩ => by
    obtain ⟨a0, _, e1, _⟩ := rp.seq h2
    refine ⟨_, e1, s, _, rp, q, fun d' k ⟨j, e', h3, h4, h5⟩ w H1 r1 a1 e2 => ?_⟩
    obtain ⟨a, vs, e3, h6, r6⟩ := Rep.seq (s := s.at k) r1 h2
    rw [e1] at e3
    cases e3
    subst h3
    cases e2.intE
    obtain ⟨u, h7, h8⟩ := at_rl r6 h4
    rcases h6 with h6 | h6
    · exact .inl ⟨_, vs, j, u, rfl, rfl, hK ▸ h6, h7, f _ k h5 _ H1 r1 a1 h8⟩
    · exact .inr (.inl ⟨_, vs, j, u, rfl, rfl, hK ▸ h6, h7, f _ k h5 _ H1 r1 a1 h8⟩)
theorem pd_tupN (hK : c.K = X.K) (hm : X.mg "tuple" = none) (i : Nat) {x : PySem.Str} {pn : Pos} (hN : X.N[i]? = some x := by rfl) (hv : Vis X.env.scope x := by first | exact Or.inl rfl | exact Or.inr (Or.inl rfl) | exact Or.inr (Or.inr rfl)) (hd : (x == ("__debug__" : PySem.Str)) = false := by decide) (hcd : (x == ("__classdict__" : PySem.Str)) = false := by decide)
    (hg : Gl X "tuple" := by rfl) (hs : starEach [Expr.Name x pn] X.env = (false, eval (Expr.Name x pn) X.env) :: starEach [] X.env := by rfl) :
    PE X (.Call (.Name "tuple" p) [.Name x pn] [] pos) (LE c (dTupN i)) :=
  (pe_tupleOf hg hm (pe_var hN hv hd hcd) hs).weak fun σ H Q ⟨s, R, rp, ⟨ds, h1, h2⟩, f⟩ => by
    rcases S.seq_kind rp h1 with ⟨a, vs, e, h, r⟩ | ⟨v, e, h⟩
    · refine ⟨_, e, .inl ⟨a, vs, rfl, SqL.of h, fun q hq => ?_⟩⟩
      have n := rp.new (o := .tup vs) hq
      exact f _ _ h2 _ _ n.1 n.2 (.tup (SqT.of (rp.at_new hq)) (r.mono n.2.sub))
    · obtain ⟨a, vs, rfl, h3, r⟩ := h.tupE
      exact ⟨_, e, .inr ⟨a, vs, rfl, hK ▸ (wo_sub _ _).st h3, f _ _ h2 _ H rp AdvE.refl h⟩⟩
theorem pdf_lstN (hK : c.K = X.K) (hm : X.mg "list" = none) (i : Nat) {x : PySem.Str} {pn : Pos} (hN : X.N[i]? = some x := by rfl) (hv : Vis X.env.scope x := by first | exact Or.inl rfl | exact Or.inr (Or.inl rfl) | exact Or.inr (Or.inr rfl)) (hd : (x == ("__debug__" : PySem.Str)) = false := by decide) (hcd : (x == ("__classdict__" : PySem.Str)) = false := by decide)
    (hg : Gl X "list" := by rfl) (hs : starEach [Expr.Name x pn] X.env = (false, eval (Expr.Name x pn) X.env) :: starEach [] X.env := by rfl) (hp : (backTo pos (starEach [] X.env)).any (·.1) = false := by rfl) :
    PE X (.Call (.Name "list" p) [.Name x pn] [] pos) (LF c (dLstN i)) :=
  (pe_callTy call_list_of hg hm PyProof.Rows.boot_list (pa_cons (pe_var hN hv hd hcd) pa_nil hs) (he := hs) (hpl := hp)).weak fun σ H Q ⟨s, R, rp, ⟨ds, h1, h2⟩, f⟩ => by
    obtain ⟨a, vs, e, h, r⟩ := rp.seq h1
    exact ⟨_, e, a, vs, rfl, hK ▸ h, fun q hq => f ds _ h2 q _ (NewL.mk' rp AdvE.refl r hq)⟩
end
end DL
namespace DL
open PySem L2
open PySem.W (Frag)
abbrev dLen (t : DE) : DE := fun s Q => t s fun d k => ∃ ds, d.items = some ds ∧ Q (.int ds.length) k
abbrev dTupOf (t : DE) : DE := fun s Q => t s fun d k => ∃ ds, d.items = some ds ∧ Q (.tup ds) k
abbrev dInt (t : DE) : DE := fun s Q => t s fun d k => ∃ i, d = .int i ∧ Q (.int i) k
abbrev dLr2 (t u : DE) : DA := fun s Q => t s fun d k => u (s.at k) fun e k' => ∃ i j, d = .int i ∧ e = .int j ∧ (-1000 ≤ i ∧ i ≤ 1000 ∧ -1000 ≤ j ∧ j ≤ 1000) ∧ Q (rngD i (j - i).toNat) k'
def rep1 : D → Option PySem.Str
  | .non => some "None"
  | .bl b => some (if b then "True" else "False")
  | .int i => some (toString i)
  | _ => none
abbrev dRepr (t : DE) : DE := fun s Q => t s fun d k => ∃ x, rep1 d = some x ∧ (∀ i, d = .int i → i.natAbs.log2 < 1920) ∧ Q (.str x) k
theorem rng_rl {K : Frag} {A : Hp} (a b : Int) : RlA K A (rgV a b) (rngD a (b - a).toNat) := by
  unfold rgV rngD
  generalize (List.range (b - a).toNat) = l
  induction l with
  | nil => exact .nil
  | cons i r ih => exact .cons (.int _) ih
section
variable {X : Cx} {c : C} {pos p : Pos}
theorem call_repr1 : CallR X (.builtin "repr") (fun xs H Q => ∃ v, xs = [v] ∧ ((∃ b, v = .bl b ∧ Q (.str (if b then "True" else "False")) H) ∨ (v = .non ∧ Q (.str "None") H) ∨ ∃ i, v = .int i ∧ i.natAbs.log2 < 1920 ∧ Q (.str (toString i)) H)) := by
  intro pins s σ H xs us Q I r h
  obtain ⟨v, rfl, h⟩ := h
  obtain ⟨u, rfl, ru⟩ := vals1 r
  rcases h with ⟨b, rfl, q⟩ | ⟨rfl, q⟩ | ⟨i, rfl, hz, q⟩
  · cases (show u = Value.bool b from ru)
    exact PySem.P.repr_of_bool ⟨.str _, H, I.tok _, ⟨_, rfl⟩, q⟩
  · cases (show u = Value.none from ru)
    exact PySem.P.repr_of_none ⟨.str _, H, I.tok _, ⟨_, rfl⟩, q⟩
  · obtain ⟨t, rfl⟩ := ru
    exact PySem.P.repr_of_int hz ⟨.str _, H, I.tok _, ⟨_, rfl⟩, q⟩
theorem pd_len (hK : c.K = X.K) (hm : X.mg "len" = none) {e : Expr} {t : DE} (h : PE X e (LE c t)) (hg : Gl X "len" := by rfl) (hs : starEach [e] X.env = (false, eval e X.env) :: starEach [] X.env := by rfl) (hp : (backTo pos (starEach [] X.env)).any (·.1) = false := by rfl) :
    PE X (.Call (.Name "len" p) [e] [] pos) (LE c (dLen t)) :=
  (pe_callB call_len_seq hg hm PySem.boot_len (pa_cons h pa_nil hs) (he := hs) (hpl := hp)).weak fun σ H Q ⟨s, R, rp, q, f⟩ => ⟨s, _, rp, q, fun d k ⟨ds, h1, h2⟩ v H1 r1 a1 e1 => by
    obtain ⟨a, vs, rfl, h, r⟩ := e1.items h1
    exact ⟨a, vs, rfl, hK ▸ sq_all (wo_sub _ _) h, by rw [r.len]; exact f _ k h2 _ H1 r1 a1 (.int _)⟩⟩
theorem pd_tupOf (hK : c.K = X.K) (hm : X.mg "tuple" = none) {e : Expr} {t : DE} (h : PE X e (LE c t)) (hg : Gl X "tuple" := by rfl) (hs : starEach [e] X.env = (false, eval e X.env) :: starEach [] X.env := by rfl) :
    PE X (.Call (.Name "tuple" p) [e] [] pos) (LE c (dTupOf t)) :=
  (pe_tupleOf hg hm h hs).weak fun σ H Q ⟨s, R, rp, q, f⟩ => ⟨s, _, rp, q, fun d k ⟨ds, h1, h2⟩ v H1 r1 a1 e1 => by
    cases d <;> first | cases h1 | skip
    · obtain ⟨a, vs, rfl, h, r⟩ := e1.lstE
      refine .inl ⟨a, vs, rfl, SqL.of (wo_sub _ _ _ _ h), fun q hq => ?_⟩
      have n := r1.new (o := .tup vs) hq
      exact f _ _ h2 _ _ n.1 (a1.trans n.2) (.tup (SqT.of (r1.at_new hq)) (r.mono n.2.sub))
    · obtain ⟨a, vs, rfl, h, r⟩ := e1.tupE
      exact .inr ⟨a, vs, rfl, hK ▸ (wo_sub _ _).st h, f _ _ h2 _ H1 r1 a1 e1⟩⟩
theorem pd_int1 (hm : X.mg "int" = none) {e : Expr} {t : DE} (h : PE X e (LE c t)) (hg : Gl X "int" := by rfl) (hs : starEach [e] X.env = (false, eval e X.env) :: starEach [] X.env := by rfl) (hp : (backTo pos (starEach [] X.env)).any (·.1) = false := by rfl) :
    PE X (.Call (.Name "int" p) [e] [] pos) (LE c (dInt t)) :=
  (pe_callTy call_int1 hg hm PyProof.Rows.boot_int (pa_cons h pa_nil hs) (he := hs) (hpl := hp)).weak fun σ H Q ⟨s, R, rp, q, f⟩ => ⟨s, _, rp, q, fun d k ⟨i, h1, h2⟩ v H1 r1 a1 e1 => by
    subst h1
    exact .inl ⟨i, by rw [e1.intE], f _ k h2 _ H1 r1 a1 (.int _)⟩⟩
theorem pd_repr (hm : X.mg "repr" = none) {e : Expr} {t : DE} (h : PE X e (LE c t)) (hg : Gl X "repr" := by rfl) (hs : starEach [e] X.env = (false, eval e X.env) :: starEach [] X.env := by rfl) (hp : (backTo pos (starEach [] X.env)).any (·.1) = false := by rfl) :
    PE X (.Call (.Name "repr" p) [e] [] pos) (LE c (dRepr t)) :=
  (pe_callB call_repr1 hg hm PyProof.Rows.boot_repr (pa_cons h pa_nil hs) (he := hs) (hpl := hp)).weak fun σ H Q ⟨s, R, rp, q, f⟩ => ⟨s, _, rp, q, fun d k ⟨x, h1, h3, h2⟩ v H1 r1 a1 e1 => by
    refine ⟨v, rfl, ?_⟩
    cases d <;> first | cases h1 | skip
    · exact .inr (.inl ⟨e1.nonE, f _ k h2 _ H1 r1 a1 (.str _)⟩)
    · exact .inl ⟨_, e1.blE, f _ k h2 _ H1 r1 a1 (.str _)⟩
    · exact .inr (.inr ⟨_, e1.intE, h3 _ rfl, f _ k h2 _ H1 r1 a1 (.str _)⟩)⟩
theorem pdf_lr2 (hc : X.calm = true) (hm : X.mg "list" = none) (hr : X.mg "range" = none) {e e' : Expr} {t u : DE} {p2 pos2 : Pos} (h : PE X e (LE c t)) (h' : PE X e' (LE c u)) (hg : Gl X "list" := by rfl) (hg2 : Gl X "range" := by rfl) (hs : starEach [e, e'] X.env = (false, eval e X.env) :: starEach [e'] X.env := by rfl) (hs2 : starEach [e'] X.env = (false, eval e' X.env) :: starEach [] X.env := by rfl)
    (hp : (backTo pos2 (starEach [e'] X.env)).any (·.1) = false := by rfl) (na : starEach [Expr.Call (.Name "range" p2) [e, e'] [] pos2] X.env = (false, eval (Expr.Call (.Name "range" p2) [e, e'] [] pos2) X.env) :: starEach [] X.env := by rfl) : PE X (.Call (.Name "list" p) [.Call (.Name "range" p2) [e, e'] [] pos2] [] pos) (LF c (dLr2 t u)) :=
  (pe_listRg hc hg hm (prg_2 hg2 hr h h' hs hs2 hp) na).weak fun σ H Q ⟨s, R, rp, q, f⟩ => ⟨s, _, rp, q, fun d k hd v H1 r1 a1 e1 => ⟨s.at k, _, r1, hd, fun d2 k2 ⟨i, j, h1, h2, ⟨b1, b2, b3, b4⟩, h4⟩ v2 H2 r2 a2 e2 => by
    subst h1 h2
    refine ⟨i, j, e1.intE, e2.intE, ⟨by omega, by omega, by omega, by omega, by omega⟩, fun q hq => f _ k2 h4 q _ (NewL.mk' r2 (a1.trans a2) (rng_rl i j) hq)⟩⟩⟩
end
end DL
namespace DL
open PySem L2
open PySem.W (Frag)
abbrev dApp (i : Nat) (t : DE) : DS := fun DD s => ∃ p ds, s.sl[i]? = some (.own p ds) ∧ t s fun d k => ds.length < lim ∧ DD.nx ((s.put i (.own p (ds ++ [d]))).at k)
abbrev dSix (i : Nat) (t u : DE) : DS := fun DD s => ∃ p ds, s.sl[i]? = some (.own p ds) ∧ u s fun d k => t (s.at k) fun j k' => ∃ z n, j = .int z ∧ ixN ds.length z = some n ∧ DD.nx ((s.put i (.own p (ds.set n d))).at k')
theorem Rep.mut {c : C} {s : S} {σ : L2.St} {H : Hp} {i : Nat} {p : Addr} {ds es : List D} {vs : List V} (r : Rep c s σ H) (h : s.sl[i]? = some (.own p ds)) (e : RlA c.K (c.hid s.X H) vs es) : Rep c (s.put i (.own p es)) σ (upd H p (.lst vs)) ∧ Sub (c.hid s.X H) (c.hid s.X (upd H p (.lst vs))) := by
  obtain ⟨e1, h1, h2, h3, ws, h4, h5⟩ := r.slot i _ h
  have sm : Sub (c.hid s.X H) (c.hid s.X (upd H p (.lst vs))) := wo_mut (List.mem_append_right _ h1)
  refine ⟨⟨r.sub.trans sm, fun a ha hm hn => ?_, r.x0, r.xm, fun a ha => ?_, r.m.eq (fun a ha _ => upd_ne fun z => r.xm p h1 (by rw [← z]; exact ha)) (.at_ h4), fun j x q => ?_, fun j k q w as bs q1 q2 ne => ?_, by rw [List.length_set]; exact r.len, r.tb.trans (.at_ h4), fun a ha => by
      by_cases z : a = p
      · rw [z, upd_same]; exact fun _ e => by cases e
      · rw [upd_ne z]; exact r.xt a ha⟩, sm⟩
  · rw [upd_ne fun z => h2 (by rw [← z]; exact ha)]
    exact r.old a ha hm hn
  · by_cases z : a = p
    · rw [z, upd_same]; simp
    · rw [upd_ne z]; exact r.xs a ha
  · rcases get_set_cases q with ⟨rfl, rfl, hl⟩ | ⟨ne, q⟩
    · exact ⟨e1, h1, h2, h3, vs, upd_same, e.mono sm⟩
    · have o := r.slot j x q
      cases x with
      | no => trivial
      | dat d =>
        obtain ⟨v, e, h⟩ := o
        exact ⟨v, e, h.mono sm⟩
      | own w as =>
        obtain ⟨q1, q2, q3, q4, us, q5, q6⟩ := o
        have nw : w ≠ p := r.apart j i w p as ds q h (fun z => ne z.symm)
        exact ⟨q1, q2, q3, q4, us, by rw [upd_ne nw]; exact q5, q6.mono sm⟩
      | mst => exact o
      | scr ns =>
        obtain ⟨v, e, h⟩ := o
        exact ⟨v, e, sm.sl h⟩
  · rcases get_set_cases q1 with ⟨rfl, q1, _⟩ | ⟨n1, q1⟩
    · cases q1
      rcases get_set_cases q2 with ⟨rfl, _, _⟩ | ⟨n2, q2⟩
      · exact absurd rfl ne
      · exact r.apart _ k _ w ds bs h q2 ne
    · rcases get_set_cases q2 with ⟨rfl, q2, _⟩ | ⟨n2, q2⟩
      · cases q2
        exact r.apart j _ q _ as ds q1 h ne
      · exact r.apart j k q w as bs q1 q2 ne
section
variable {X : Cx} {c : C} {pos : Pos}
theorem psd_app (i : Nat) {x : PySem.Str} {pn apos cpos : Pos} {e : Expr} {t : DE} (he : PE X e (LE c t)) (hN : X.N[i]? = some x := by rfl) (hv : Vis X.env.scope x := by first | exact Or.inl rfl | exact Or.inr (Or.inl rfl) | exact Or.inr (Or.inr rfl)) (hd : (x == ("__debug__" : PySem.Str)) = false := by decide) (hcd : (x == ("__classdict__" : PySem.Str)) = false := by decide)
    (hbase : attributeBase (Expr.Name x pn) "append" X.env (eval (Expr.Name x pn) X.env) = eval (Expr.Name x pn) X.env := by rfl)
    (hfew : ((backTo cpos (starEach (e :: []) X.env)).all (fun x => !x.1) && (backToKw cpos (keywordEach [] X.env)).all (fun x => x.1.isSome) && decide ((e :: []).length + ([] : List Keyword).length + (if ([] : List Keyword).isEmpty then 0 else 1) < 30)) = true := by rfl)
    (hline : (apos.endLine == cpos.line) = true := by rfl) (hs : starEach (e :: []) X.env = (false, eval e X.env) :: starEach [] X.env := by rfl) (hplain : (backTo cpos (starEach [] X.env)).any (·.1) = false := by rfl)
    (hsw : swapsWith (.Call (.Attribute (.Name x pn) "append" apos) [e] [] cpos) none pos.line X.env = pure false := by rfl) :
    PS X (.Expr (.Call (.Attribute (.Name x pn) "append" apos) [e] [] cpos) pos) (LS c (dApp i t)) :=
  (ps_expr (pe_bm PySem.F.plainAttrs_list PySem.F.slot_list_append PySem.F.type_list_append mt_append (pe_var hN hv hd hcd) (pa_cons he pa_nil hs) hbase hfew hline hs hplain) hsw).weak fun D σ H ⟨s, DD, rp, ⟨p, ds, h, q⟩, f⟩ => by
    obtain ⟨e1, h1, h2, h3, vs, h4, h5⟩ := rp.slot i _ h
    refine ⟨_, e1, .inl ⟨rfl, _, SqL.of h4⟩, s, _, rp, q, fun d k ⟨hl, hR⟩ v H1 r1 a1 e2 => ?_⟩
    have h6 : H1 p = some (.lst vs) := by rw [a1.own p h1]; exact h4
    refine ⟨p, vs, v, rfl, rfl, h6, by rw [h5.len]; exact lim_lt (Nat.le_of_lt hl), ?_⟩
    have m := Rep.mut (s := s.at k) r1 h ((h5.mono a1.sub).app (.cons e2 .nil))
    exact f.nx _ σ _ m.1 (a1.sub.trans m.2) hR
theorem psd_six (i : Nat) {x : PySem.Str} {pn p2 : Pos} {e1 e2 : Expr} {t u : DE} (h1 : PE X e1 (LE c t)) (h2 : PE X e2 (LE c u)) (hN : X.N[i]? = some x := by rfl) (hv : Vis X.env.scope x := by first | exact Or.inl rfl | exact Or.inr (Or.inl rfl) | exact Or.inr (Or.inr rfl)) (hd : (x == ("__debug__" : PySem.Str)) = false := by decide) (hcd : (x == ("__classdict__" : PySem.Str)) = false := by decide)
    (ha : ∀ v, assign (.Subscript (.Name x pn) e1 p2) X.env v = (do
      let ov ← holding [v] (eval (.Name x pn) X.env)
      let iv ← holding [v, ov] (eval e1 X.env)
      standAt p2
      holding [v, ov, iv] (setItem ov iv v)
      release [v, ov, iv] []) := by intro _; rfl)
    (hs : swapsWithSole [.Subscript (.Name x pn) e1 p2] e2 pos.line X.env = pure false := by rfl) (hw : swappedStores [.Subscript (.Name x pn) e1 p2] e2 X.env = pure none := by rfl)
    (hA : (assignEach [.Subscript (.Name x pn) e1 p2] X.env).map (·.2) = [assign (.Subscript (.Name x pn) e1 p2) X.env] := by rfl) :
    PS X (.Assign [.Subscript (.Name x pn) e1 p2] e2 pos) (LS c (dSix i t u)) :=
  (ps_asg h2 (pg_sub (pe_var hN hv hd hcd) h1 set_list ha) hs hw hA).weak fun D σ H ⟨s, DD, rp, ⟨p, ds, h, q⟩, f⟩ => by
    obtain ⟨g1, g2, g3, g4, vs, g5, g6⟩ := rp.slot i _ h
    refine ⟨s, _, rp, q, fun d k hd v H1 r1 a1 e3 => ⟨_, g1, s.at k, _, r1, hd, fun j k2 ⟨z, n, hj, hz, hR⟩ w H2 r2 a2 e4 => ?_⟩⟩
    subst hj
    have h6 : H2 p = some (.lst vs) := by rw [a2.own p g2, a1.own p g2]; exact g5
    refine ⟨p, vs, z, n, rfl, e4.intE, h6, by rw [g6.len]; exact hz, ?_⟩
    have m := Rep.mut (s := s.at k2) r2 h (RlA.set (e3.mono a2.sub) n ((g6.mono a1.sub).mono a2.sub))
    exact f.nx _ σ _ m.1 ((a1.sub.trans a2.sub).trans m.2) hR
end
inductive Vx where
  | dat (d : D) | own (p : Addr) (ds : List D)
abbrev DX := S → (List Vx → S → Prop) → Prop
def VxOk (c : C) (X : List Addr) (H : Hp) (v : V) : Vx → Prop
  | .dat d => Rl c.K (c.hid X H) v d
  | .own p ds => v = .ref p ∧ p ∈ X ∧ p ∉ c.X0 ∧ c.H0 p = none ∧ ∃ vs, H p = some (.lst vs) ∧ RlA c.K (c.hid X H) vs ds
@[reducible] def Vx.sl : Vx → Sl
  | .dat d => .dat d
  | .own p ds => .own p ds
def VxAp (sl : List Sl) : List Vx → Prop
  | [] => True
  | x :: r => (∀ p ds, x = .own p ds → (∀ (i : Nat) es, sl[i]? ≠ some (.own p es)) ∧ ∀ q es, Vx.own q es ∈ r → p ≠ q) ∧ VxAp sl r
inductive VxA (c : C) (X : List Addr) (H : Hp) : List V → List Vx → Prop
  | nil : VxA c X H [] []
  | cons {v : V} {vs : List V} {x : Vx} {xs : List Vx} : VxOk c X H v x → VxA c X H vs xs → VxA c X H (v :: vs) (x :: xs)
def LX (c : C) (t : DX) : TA := fun σ H Q => ∃ s R, Rep c s σ H ∧ t s R ∧ ∀ xs s', R xs s' → ∀ vs H', Rep c s' σ H' → Sub (c.hid s.X H) (c.hid s'.X H') → (∀ a ∈ s.X, H' a = H a) → (∀ a ∈ s.X, a ∈ s'.X) → s'.sl = s.sl → VxA c s'.X H' vs xs → (∀ p ds, Vx.own p ds ∈ xs → p ∉ s.X) → VxAp s.sl xs → Q vs H'
abbrev dxN : DX := fun s Q => Q [] s
abbrev dxD (t : DE) (u : DX) : DX := fun s Q => t s fun d k => u (s.at k) fun xs s' => Q (.dat d :: xs) s'
section
variable {X : Cx} {c : C}
theorem pax_nil : PA X [] (LX c dxN) := pa_nil.weak fun σ H Q ⟨s, R, rp, q, f⟩ => f [] s q [] H rp (Sub.refl _) (fun _ _ => rfl) (fun _ h => h) rfl .nil (fun _ _ h => nomatch h) trivial
theorem pax_dat {e : Expr} {es : List Expr} {t : DE} {u : DX} (ha : PE X e (LE c t)) (hr : PA X es (LX c u)) (hs : starEach (e :: es) X.env = (false, eval e X.env) :: starEach es X.env := by rfl) : PA X (e :: es) (LX c (dxD t u)) :=
  (pa_cons ha hr hs).weak fun σ H Q ⟨s, R, rp, q, f⟩ => ⟨s, _, rp, q, fun d k hd v H1 r1 a1 e1 => ⟨s.at k, _, r1, hd, fun xs s' hx vs H2 r2 sb ow xx sl vx out ap => by
    refine f (.dat d :: xs) s' hx (v :: vs) H2 r2 (a1.sub.trans sb) (fun a h => (ow a h).trans (a1.own a h)) xx sl (.cons (e1.mono sb) vx) (fun p ds h => ?_) ⟨fun p ds h => (nomatch h), ap⟩
    rcases List.mem_cons.mp h with h | h
    · cases h
    · exact out p ds h⟩⟩
theorem VxOk.slot {H : Hp} {X : List Addr} {v : V} {x : Vx} (h : VxOk c X H v x) : SlOk c X H (some (some v)) x.sl := by
  cases x with
  | dat d => exact ⟨v, rfl, h⟩
  | own p ds =>
    obtain ⟨rfl, h⟩ := h
    exact ⟨rfl, h⟩
abbrev dPar2 (i j : Nat) (t : DX) : DS := fun DD s => t s fun xs s' => match xs with | [x, y] => DD.nx ((s'.put i x.sl).put j y.sl) | _ => False
theorem put_no {s : S} {i : Nat} {x : Vx} {p : Addr} {es : List D} {j : Nat} (h : ∀ (i : Nat) es, s.sl[i]? ≠ some (.own p es)) (hx : ∀ ds, x ≠ .own p ds) : (s.put i x.sl).sl[j]? ≠ some (.own p es) := fun e => by
  rcases get_set_cases e with ⟨_, e, _⟩ | ⟨_, e⟩
  · cases x with
    | dat d => cases e
    | own q ds => cases e; exact hx es rfl
  · exact h j es e
theorem psd_par2 (i j : Nat) {x y : PySem.Str} {a b : Expr} {t : DX} {px py pt pos : Pos} {kt k2 pt2} (hc : X.calm = true) (hN : X.N.Nodup) (ha : PA X [a, b] (LX c t)) (hij : i ≠ j := by decide) (hi : X.N[i]? = some x := by rfl) (hj : X.N[j]? = some y := by rfl)
    (hx : X.env.scope.names.lookup x = some .local := by rfl) (hy : X.env.scope.names.lookup y = some .local := by rfl)
    (hw : swappedStores [.Tuple [.Name x px, .Name y py] kt pt] (.Tuple [a, b] k2 pt2) X.env = pure (some [x, y]) := by rfl)
    (hs : swapsWithSole [.Tuple [.Name x px, .Name y py] kt pt] (.Tuple [a, b] k2 pt2) pos.line X.env = pure false := by rfl) :
    PS X (.Assign [.Tuple [.Name x px, .Name y py] kt pt] (.Tuple [a, b] k2 pt2) pos) (LS c (dPar2 i j t)) :=
  (ps_par hc hN hi hj hij hx hy ha hw hs).weak fun D σ H ⟨s, DD, rp, q, f⟩ => ⟨s, _, rp, q, fun xs s' h vs H1 r1 sb ow xx sl vx out ap => by
    cases vx with
    | nil => exact h.elim
    | @cons _ _ x1 _ v1 vx =>
      cases vx with
      | nil => exact h.elim
      | @cons _ _ x2 _ v2 vx =>
        cases vx with
        | cons _ _ => exact h.elim
        | nil =>
          obtain ⟨ap1, ap2, _⟩ := ap
          refine ⟨_, _, rfl, f.nx _ _ H1 ((r1.put v1.slot fun p ds e j q es e' _ z => ?_).put v2.slot fun p ds e j q es e' _ z => ?_) sb h⟩
          · cases x1 with
            | dat d => cases e
            | own p1 ds1 =>
              cases e
              rw [sl] at e'
              exact (ap1 _ _ rfl).1 j es (z ▸ e')
          · cases x2 with
            | dat d => cases e
            | own p1 ds1 =>
              cases e
              refine put_no (s := s') (x := x1) (p := p) (fun i es => ?_) (fun es' e1 => ?_) (z ▸ e')
              · rw [sl]; exact (ap2 _ _ rfl).1 i es
              · subst e1
                exact (ap1 _ _ rfl).2 _ _ List.mem_cons_self rfl⟩
theorem VxOk.mono {H H' : Hp} {X : List Addr} {v : V} {x : Vx} (sb : Sub (c.hid X H) (c.hid X H')) (ow : ∀ a ∈ X, H' a = H a) (h : VxOk c X H v x) : VxOk c X H' v x := by
  cases x with
  | dat d => exact Rl.mono sb h
  | own p ds =>
    obtain ⟨h1, h2, h3, h4, vs, h5, h6⟩ := h
    exact ⟨h1, h2, h3, h4, vs, by rw [ow p h2]; exact h5, h6.mono sb⟩
end
end DL
namespace DL
open PySem L2
open PySem.W (Frag)
abbrev DSp := List D → Nat → (D → Nat → Prop) → Prop
structure Aft (K : Frag) (M : Option Mc) (X0 : List Addr) (H H' : Hp) (k : Nat) : Prop where
  sub : Sub (wo H (Ml M ++ X0)) (wo H' (Ml M ++ X0))
  old : ∀ a ∈ X0, H' a = H a
  m : MAt M H' k
  tb : TbK H H'
structure Ahd (K : Frag) (M : Option Mc) (X0 : List Addr) (H : Hp) (k : Nat) (ws : List V) (ds : List D) : Prop where
  xm : ∀ a ∈ X0, a ∉ Ml M
  xs : ∀ a ∈ X0, H a ≠ none
  m : MAt M H k
  args : RlA K (wo H (Ml M ++ X0)) ws ds
  xt : ∀ a ∈ X0, ∀ ps, H a ≠ some (.tbl ps)
def spD (K : Frag) (hm : Bool) (sp : DSp) : Sp := fun vs H Q _ => ∃ (M : Option Mc) (X0 : List Addr) (k : Nat) (ds : List D) (ws : List V) (R : D → Nat → Prop),
  (match hm with | true => ∃ m, M = some m ∧ vs = .ref m.pm :: ws | false => M = none ∧ vs = ws) ∧ Ahd K M X0 H k ws ds ∧ sp ds k R ∧
  ∀ d k', R d k' → ∀ v H', Aft K M X0 H H' k' → Rl K (wo H' (Ml M ++ X0)) v d → Q v H'
structure CalD (P : Program) (w : World) (K : Frag) (mg : PySem.Str → Option Value) (base : Heap) (k : Nat) (x : PySem.Str) (hm : Bool) (sp : DSp) : Prop where
  ex : ∃ f fd ps, FnOk P w K mg base CX0 k f fd ps (spD K hm sp) ∧ mg x = some (.ref f) ∧ PySem.W.keepIn K (.ref f) = true ∧ Binds K fd ps []
abbrev dCall (sp : DSp) (t : DA) : DE := fun s Q => t s fun ds k => sp ds 0 fun d _ => Q d k
abbrev dCallM (i : Nat) (sp : DSp) (t : DA) : DE := fun s Q => s.sl[i]? = some .mst ∧ t s fun ds k => sp ds k Q
theorem Rep.allHid {c : C} {s : S} {σ : L2.St} {H : Hp} (r : Rep c s σ H) : ∀ a ∈ Ml c.M ++ s.X, H a ≠ none := fun a h => by
  rcases List.mem_append.mp h with h | h
  · exact r.m.there a h
  · exact r.xs a h
theorem MAt.noTb {m : Option Mc} {H : Hp} {k : Nat} (h : MAt m H k) : ∀ a ∈ Ml m, ∀ ps, H a ≠ some (.tbl ps) := by
  cases m with
  | none => intro a ha; simp [Ml] at ha
  | some m =>
    obtain ⟨cs, gs, n, o, q⟩ := h
    intro a ha ps
    simp [Ml] at ha
    rcases ha with rfl | rfl | rfl
    · rw [o.hm]; intro e; cases e
    · rw [o.hc]; intro e; cases e
    · rw [o.hg]; intro e; cases e
theorem Rep.allTb {c : C} {s : S} {σ : L2.St} {H : Hp} (r : Rep c s σ H) : ∀ a ∈ Ml c.M ++ s.X, ∀ ps, H a ≠ some (.tbl ps) := fun a h => (List.mem_append.mp h).elim (r.m.noTb a) (r.xt a)
theorem Rep.after {c : C} {s : S} {σ : L2.St} {H H' : Hp} {k : Nat} (r : Rep c s σ H) (a : Aft c.K none (Ml c.M ++ s.X) H H' k) : Rep c s σ H' ∧ AdvE c s.X H H' := by
  have h : Sub (c.hid s.X H) (c.hid s.X H') := a.sub
  refine ⟨r.step (k := s.k) h (fun b hb _ => a.old b (List.mem_append_right _ hb)) (r.m.eq (fun b hb _ => a.old b (List.mem_append_left _ hb)) a.tb) (r.tb.trans a.tb), h, fun b hb => a.old b (List.mem_append_right _ hb)⟩
theorem Rep.afterM {c : C} {s : S} {σ : L2.St} {H H' : Hp} {k : Nat} (r : Rep c s σ H) (a : Aft c.K c.M s.X H H' k) : Rep c (s.at k) σ H' ∧ AdvE c s.X H H' :=
  ⟨r.step a.sub (fun b hb _ => a.old b hb) a.m (r.tb.trans a.tb), a.sub, a.old⟩
section
variable {X : Cx} {c : C} {k j : Nat} {x : PySem.Str} {sp : DSp} {p pos : Pos}
theorem pd_call (hK : c.K = X.K) (F : CalD X.prog X.w X.K X.mg X.base k x false sp) (hr : Room j X.A) (hk : k ≤ j) {e : Expr} {es : List Expr} {t : DA} (ha : PA X (e :: es) (LA c t)) (hg : Gl X x := by rfl) (hdb : (x == ("__debug__" : PySem.Str)) = false := by decide) (he : starEach (e :: es) X.env = (false, eval e X.env) :: starEach es X.env := by rfl) (hpl : (backTo pos (starEach es X.env)).any (·.1) = false := by rfl) :
    PE X (.Call (.Name x p) (e :: es) [] pos) (LE c (dCall sp t)) := by
  obtain ⟨f, fd, ps, G, hm, kp, b⟩ := F.ex
  refine (pe_call G (hr.mono hk) hg hm kp b .nil pass0 ha hdb he hpl).weak fun σ H Q ⟨s, R, rp, q, fn⟩ => ⟨s, _, rp, q, fun ds k1 h1 vs H1 r1 a1 e1 => ?_⟩
  refine ⟨none, Ml c.M ++ s.X, 0, ds, vs, _, ⟨rfl, by rw [List.append_nil]⟩, ⟨fun a _ => by simp [Ml], r1.allHid, trivial, hK ▸ e1, r1.allTb⟩, h1, fun d k' hR v H' af er => ?_⟩
  have z := Rep.after (s := s.at k1) r1 ⟨af.sub, af.old, af.m, af.tb⟩
  exact fn d k1 hR v H' z.1 (a1.trans z.2) (hK ▸ er)
theorem pd_callM (hK : c.K = X.K) (F : CalD X.prog X.w X.K X.mg X.base k x true sp) (hr : Room j X.A) (hk : k ≤ j) (i : Nat) {y : PySem.Str} {pn : Pos} {es : List Expr} {t : DA} (ha : PA X es (LA c t)) (hN : X.N[i]? = some y := by rfl) (hv : Vis X.env.scope y := by first | exact Or.inl rfl | exact Or.inr (Or.inl rfl) | exact Or.inr (Or.inr rfl)) (hd : (y == ("__debug__" : PySem.Str)) = false := by decide) (hcd : (y == ("__classdict__" : PySem.Str)) = false := by decide)
    (hg : Gl X x := by rfl) (hdb : (x == ("__debug__" : PySem.Str)) = false := by decide) (he : starEach (Expr.Name y pn :: es) X.env = (false, eval (Expr.Name y pn) X.env) :: starEach es X.env := by rfl) (hpl : (backTo pos (starEach es X.env)).any (·.1) = false := by rfl) :
    PE X (.Call (.Name x p) (.Name y pn :: es) [] pos) (LE c (dCallM i sp t)) := by
  obtain ⟨f, fd, ps, G, hm, kp, b⟩ := F.ex
  refine (pe_call G (hr.mono hk) hg hm kp b .nil pass0 (pa_cons (pe_var hN hv hd hcd) ha he) hdb he hpl).weak fun σ H Q ⟨s, R, rp, ⟨hs, q⟩, fn⟩ => ?_
  obtain ⟨m, hM, e0⟩ := rp.slot i _ hs
  refine ⟨_, e0, s, _, rp, q, fun ds k1 h1 vs H1 r1 a1 e1 => ?_⟩
  refine ⟨c.M, s.X, k1, ds, vs, _, ⟨m, hM, by rw [List.append_nil]⟩, ⟨r1.xm, r1.xs, r1.m, hK ▸ e1, r1.xt⟩, h1, fun d k' hR v H' af er => ?_⟩
  have z := Rep.afterM (s := s.at k1) r1 ⟨af.sub, af.old, af.m, af.tb⟩
  exact fn d k' hR v H' z.1 (a1.trans z.2) (hK ▸ er)
end
@[reducible] def init (hm : Bool) (n : Nat) (ds : List D) : List Sl := (match hm with | true => [Sl.mst] | false => []) ++ ds.map .dat ++ List.replicate (n - (ds.length + (match hm with | true => 1 | false => 0))) .no
theorem start_get {N : List PySem.Str} {vs : List V} {i : Nat} {v : V} (h : vs[i]? = some v) : (L2.start N vs)[i]? = some (some v) := by
  unfold L2.start
  rw [List.getElem?_append_left (by rw [List.length_map]; exact (List.getElem?_eq_some_iff.mp h).1), List.getElem?_map, h]
  rfl
theorem init_rep {c : C} {hm : Bool} {N : List PySem.Str} {vs ws : List V} {ds : List D} {H : Hp} {k : Nat} (hc : c.H0 = H) (h : match hm with | true => ∃ m, c.M = some m ∧ vs = .ref m.pm :: ws | false => c.M = none ∧ vs = ws)
    (a : Ahd c.K c.M c.X0 H k ws ds) (hl : vs.length ≤ N.length) : Rep c ⟨c.X0, init hm N.length ds, k⟩ (L2.start N vs) H := by
  subst hc
  have len := a.args.len
  have dat : ∀ (i : Nat) (o : Nat) (x : Sl), (∀ (j : Nat) (w : V), ws[j]? = some w → vs[j + o]? = some w) → (ds.map Sl.dat ++ List.replicate (N.length - (ds.length + o)) Sl.no)[i]? = some x → SlOk c c.X0 c.H0 (L2.start N vs)[i + o]? x := fun i o x hw e => by
    by_cases hi : i < ds.length
    · rw [List.getElem?_append_left (by rw [List.length_map]; exact hi), List.getElem?_map] at e
      obtain ⟨d, hd⟩ : ∃ d, ds[i]? = some d := ⟨ds[i], by simp [hi]⟩
      rw [hd] at e
      cases e
      obtain ⟨w, h1, h2⟩ := a.args.getD hd
      exact ⟨w, start_get (hw i w h1), h2⟩
    · rw [List.getElem?_append_right (by rw [List.length_map]; omega), List.getElem?_replicate] at e
      split at e
      · cases e; trivial
      · cases e
  refine ⟨Sub.refl _, fun _ _ _ _ => rfl, fun _ h => h, a.xm, a.xs, a.m, fun i x e => ?_, fun i j p q as bs e1 _ _ => ?_, ?_, .refl, a.xt⟩
  · cases hm with
    | false =>
      obtain ⟨_, rfl⟩ := h
      exact dat i 0 x (fun j w h => h) (by simpa [init] using e)
    | true =>
      obtain ⟨m, hM, rfl⟩ := h
      cases i with
      | zero =>
        have e' : Sl.mst = x := Option.some.inj e
        subst e'
        exact ⟨m, hM, start_get rfl⟩
      | succ i => exact dat i 1 x (fun j w h => h) (by simpa [init] using e)
  · have e1 : (init hm N.length ds)[i]? = some (.own p as) := e1
    unfold init at e1
    have mem := List.mem_of_getElem? e1
    cases hm <;> simp at mem
  · show (init hm N.length ds).length = (L2.start N vs).length
    unfold init L2.start
    cases hm with
    | false =>
      obtain ⟨_, rfl⟩ := h
      simp
      omega
    | true =>
      obtain ⟨m, hM, rfl⟩ := h
      simp at hl
      simp
      omega
section
variable {P : Program} {w : World} {K : Frag} {mg : PySem.Str → Option Value} {base : Heap}
theorem okD {x qual : PySem.Str} {st : Stmt} {f : Addr} {fd : FuncData} {N ps : List PySem.Str} {k : Nat} {hm : Bool} {sp : DSp} (F : Fun K x qual st f fd) (Sc : FnScope N ps (defScope st)) (ow : List Nat)
    (len : ∀ ds k R, sp ds k R → ds.length + (match hm with | true => 1 | false => 0) = ps.length)
    (body : ∃ t : DS, (∀ (cdv : Value) (A : Around) (outer : List Env) (s : Shared) (H : Hp) (E : XK) (M : Option Mc) (X0 : List Addr), Room k (A.deeper (PyProof.Rows.envOfC qual (defScope st) s.heap.objs.size f cdv)) →
        PSs (cxOf CX0 P w K mg base N qual (defScope st) f cdv A outer s H E).nox (defBody st) (LS ⟨K, M, X0, H, ow⟩ t)) ∧
      ∀ X ds k R, sp ds k R → t { nx := fun s => R .non s.k, rt := R } ⟨X, init hm N.length ds, k⟩) :
    FnOk P w K mg base CX0 (k + 1) f fd ps (spD K hm sp) := by
  obtain ⟨t, hb, hr⟩ := body
  have lens : ∀ vs H Q E, spD K hm sp vs H Q E → vs.length = ps.length := fun vs H Q E ⟨M, X0, k, ds, ws, R, h1, a, h2, h3⟩ => by
    have q := len ds k R h2
    have l := a.args.len
    cases hm with
    | false =>
      obtain ⟨_, rfl⟩ := h1
      rw [l]
      exact q
    | true =>
      obtain ⟨m, _, rfl⟩ := h1
      rw [List.length_cons, l]
      exact q
  refine F.ok Sc lens fun cdv A outer s H vs Q E room h => ?_
  have hl := lens _ _ _ _ h
  obtain ⟨M, X0, k', ds, ws, R, h1, a, h2, h3⟩ := h
  have hpl : ps.length ≤ N.length := by have := congrArg List.length Sc.pre; rw [List.length_take] at this; omega
  refine ⟨LS ⟨K, M, X0, H, ow⟩ t, hb cdv A outer s H E M X0 room, ⟨X0, init hm N.length ds, k'⟩, _, init_rep (c := ⟨K, M, X0, H, ow⟩) rfl h1 a (by omega), hr X0 ds k' R h2, ?_⟩
  have fin : ∀ d k v H', Fin ⟨K, M, X0, H, ow⟩ H' k → Rl K (wo H' (Ml M ++ X0)) v d → R d k → Q v H' := fun d k v H' fi e r => h3 d k r v H' ⟨fi.sub, fun b hb => fi.old b hb (a.xm b hb) (a.xs b hb), fi.m, fi.tb⟩ e
  exact ⟨fun s' σ' H' r _ q => fin .non s'.k .non H' r.fin .non q, fun _ _ _ _ _ q => q, fun _ _ _ _ _ q => q, fun d k v H' fi e r => fin d k v H' fi e r⟩
end
end DL
namespace DL
open PySem L2
open PySem.W (Frag)
inductive KvA (K : Frag) (H : Hp) : List (Int × V) → List (Int × D) → Prop
  | nil : KvA K H [] []
  | cons {k : Int} {v : V} {vs : List (Int × V)} {d : D} {ds : List (Int × D)} : Rl K H v d → KvA K H vs ds → KvA K H ((k, v) :: vs) ((k, d) :: ds)
def lookI {α : Type} (l : List (Int × α)) (i : Int) : Option α := (l.find? fun p => decide (p.1 = i)).map (·.2)
theorem KvA.look {K : Frag} {H : Hp} : ∀ {vs : List (Int × V)} {ds : List (Int × D)} {i : Int}, KvA K H vs ds → (∀ d, lookI ds i = some d → ∃ v, lookI vs i = some v ∧ Rl K H v d) ∧ (lookI ds i = none → lookI vs i = none)
  | _, _, i, .nil => ⟨fun d h => (by cases h), fun _ => rfl⟩
  | _, _, i, .cons (k := k) (v := v) (d := e) r rr => by
    have ih := KvA.look (i := i) rr
    unfold lookI at ih ⊢
    by_cases hk : k = i
    · subst hk
      simp only [List.find?_cons, decide_true, Option.map_some, Option.some.injEq]
      exact ⟨fun d h => (by subst h; exact ⟨v, rfl, r⟩), fun h => (by cases h)⟩
    · simp only [List.find?_cons, decide_eq_false hk]
      exact ih
structure KdAt (P : Program) (w : World) (K : Frag) (mg : PySem.Str → Option Value) (x : PySem.Str) (kvs : List (Int × D)) : Prop where
  ex : ∃ (a : Addr) (us : List (Int × Value)) (vs : List (Int × V)), mg x = some (.ref a) ∧ (a == sysModules) = false ∧ (∀ h : Heap, K.In h → h.DictOf (intKind P w) a us) ∧ KV vs us ∧ ∀ H, KvA K H vs kvs
theorem KV.look {vs : List (Int × V)} {us : List (Int × Value)} {i : Int} (r : KV vs us) : RelO (lookI vs i) (valueAt us i) := by
  have h : RelO ((vs.find? fun kv => decide (kv.1 = i)).map (·.2)) (valueAt us i) := by
    unfold valueAt
    induction r with
    | nil => trivial
    | @cons p q _ _ h t ih =>
      obtain ⟨a, b⟩ := p
      obtain ⟨a', b'⟩ := q
      obtain ⟨h1, h2⟩ := h
      have h1 : a = a' := h1
      subst h1
      by_cases e : a = i
      · simp only [List.find?_cons, decide_eq_true e]
        exact h2
      · simp only [List.find?_cons, decide_eq_false e]
        exact ih
  exact h
abbrev dKd (kvs : List (Int × D)) (t : DE) : DE := fun s Q => t s fun d k => ∃ i e, d = .int i ∧ lookI kvs i = some e ∧ Q e k
abbrev dKdIn (kvs : List (Int × D)) (t : DE) : DE := fun s Q => t s fun d k => ∃ i, d = .int i ∧ Q (.bl (lookI kvs i).isSome) k
section
variable {X : Cx} {c : C} {pos : Pos} {x : PySem.Str} {kvs : List (Int × D)}
theorem pd_kd (hK : c.K = X.K) (h : KdAt X.prog X.w X.K X.mg x kvs) {pn : Pos} {i : Expr} {t : DE} (ht : PE X i (LE c t)) (hs : NoSl i := by exact fun _ _ => rfl) (hg : Gl X x := by rfl) (hdb : (x == ("__debug__" : PySem.Str)) = false := by decide) :
    PE X (.Subscript (.Name x pn) i pos) (LE c (dKd kvs t)) := by
  obtain ⟨a, us, vs, hm, low, hd, kv, rl⟩ := h.ex
  refine ⟨fun pins s σ H Q I ⟨st, R, rp, q, f⟩ => ?_⟩
  refine subD_of PySem.F.slot_dict_getitem.lookup hs ?_
  refine ld_glob I hg hm ?_ hdb
  refine thn (ht.run pins s σ H _ I ⟨st, _, rp, q, fun d k h v H1 r1 a1 e1 => (⟨d, k, h, r1, a1, e1⟩ : (fun v H1 => ∃ d k, (∃ i e, d = D.int i ∧ lookI kvs i = some e ∧ R e k) ∧ Rep c (st.at k) σ H1 ∧ AdvE c st.X H H1 ∧ Rl c.K (c.hid st.X H1) v d) v H1)⟩) fun u s1 ⟨v, H1, I1, rv, d, k, ⟨j, e, hj, he, hR⟩, r1, a1, e1⟩ => ?_
  subst hj
  cases e1.intE
  obtain ⟨t', rfl⟩ := rv
  have dd := hd s1.heap I1.kIn
  obtain ⟨v, hv, hr⟩ := ((rl (c.hid st.X H1)).look (i := j)).1 e he
  obtain ⟨u, hu, ru⟩ := RelO.some_of (v := v) (o := valueAt us j) (by rw [← hv]; exact KV.look kv)
  exact ⟨dd.typeIs, wpAny_getItem_of (knd := intKind X.prog X.w) (k := j) (by simp [intKind, Value.isInt]) dd.mapOf hu ⟨v, H1, I1.tok _, ru, f e k hR v H1 r1 a1 (hK ▸ hr)⟩⟩
theorem pd_inkd (h : KdAt X.prog X.w X.K X.mg x kvs) {pn : Pos} {i : Expr} {t : DE} (ht : PE X i (LE c t)) (hg : Gl X x := by rfl) (hdb : (x == ("__debug__" : PySem.Str)) = false := by decide) (hb : behindInMarks .In (Expr.Name x pn) = false := by rfl) :
    PE X (.Compare i [.In] [.Name x pn] pos) (LE c (dKdIn kvs t)) := by
  obtain ⟨a, us, vs, hm, low, hd, kv, rl⟩ := h.ex
  refine pe_cmp (op := .In) ⟨fun pins s σ H Q I ⟨st, R, rp, q, f⟩ => ?_⟩ hb
  refine thn (ht.run pins s σ H _ I ⟨st, _, rp, q, fun d k h v H1 r1 a1 e1 => (⟨d, k, h, r1, a1, e1⟩ : (fun v H1 => ∃ d k, (∃ i, d = D.int i ∧ R (.bl (lookI kvs i).isSome) k) ∧ Rep c (st.at k) σ H1 ∧ AdvE c st.X H H1 ∧ Rl c.K (c.hid st.X H1) v d) v H1)⟩) fun u s1 ⟨v, H1, I1, rv, d, k, ⟨j, hj, hR⟩, r1, a1, e1⟩ => ?_
  subst hj
  cases e1.intE
  obtain ⟨t', rfl⟩ := rv
  refine ld_glob I1 hg hm ?_ hdb
  have dd := hd s1.heap I1.kIn
  refine wpAny_in_of (knd := intKind X.prog X.w) (k := j) (by simp [intKind, Value.isInt]) low dd.mapOf ?_
  have z := KV.look (i := j) kv
  have y := (rl (c.hid st.X H1)).look (i := j)
  have eq : (valueAt us j).isSome = (lookI kvs j).isSome := by
    cases h1 : lookI kvs j with
    | none =>
      rw [y.2 h1] at z
      cases h2 : valueAt us j with
      | none => rfl
      | some u => rw [h2] at z; exact z.elim
    | some d =>
      obtain ⟨v, h3, _⟩ := y.1 d h1
      rw [h3] at z
      cases h2 : valueAt us j with
      | none => rw [h2] at z; exact z.elim
      | some u => rfl
  rw [eq]
  exact ⟨.bl _, H1, I1.tok _, rfl, f _ k hR _ H1 r1 a1 (.bl _)⟩
end
end DL
namespace DL
open PySem L2
open PySem.W (Frag)
theorem KvA.mono {K : Frag} {A B : Hp} (x : Sub A B) : ∀ {vs : List (Int × V)} {ds : List (Int × D)}, KvA K A vs ds → KvA K B vs ds
  | _, _, .nil => .nil
  | _, _, .cons h r => .cons (h.mono x) (KvA.mono x r)
def D.tname : D → Option String
  | .non => some "NoneType"
  | .bl _ => some "bool"
  | .int _ => some "int"
  | .str _ => some "str"
  | .lst _ => some "list"
  | .tup _ => some "tuple"
  | .dic => some "dict"
  | .ins _ _ _ => none
  | .exc _ _ _ => none
abbrev dIsi (T : String) (t : DE) : DE := fun s Q => t s fun d k => ∃ n b, d.tname = some n ∧ kitB n T = some b ∧ Q (.bl b) k
abbrev dIsi2 (T U : String) (t : DE) : DE := fun s Q => t s fun d k => ∃ n a b, d.tname = some n ∧ kitB n T = some a ∧ kitB n U = some b ∧ Q (.bl (a || b)) k
theorem Rl.ty {K : Frag} {H : Hp} {v : V} {d : D} {n : String} (h : Rl K H v d) (e : d.tname = some n) : TyX K H v (.type n) := by
  cases h with
  | non => cases e; exact .base .non
  | bl b => cases e; exact .base (.bl b)
  | int i => cases e; exact .base (.int i)
  | str x => cases e; exact .base (.str x)
  | lst h _ => cases e; exact .base (.lst h)
  | tup h _ =>
    cases e
    rcases h with (h | ⟨o, h⟩) | ⟨o, its, m, h1, h2, _⟩
    · exact .base (.tup h)
    · exact .fTuple h
    · exact .kTuple h1 h2
  | dic h => cases e; exact .base (.dK h)
  | ins _ _ _ => cases e
  | exc _ _ _ _ => cases e
section
variable {X : Cx} {c : C} {pos p : Pos}
theorem pd_isi (hK : c.K = X.K) (hm : X.mg "isinstance" = none) {T : PySem.Str} {Tn : String} (hT : X.mg T = none) (hb : bootBuiltins T = some (.type Tn)) {e : Expr} {t : DE} {pt : Pos} (h : PE X e (LE c t)) (hg : Gl X "isinstance" := by rfl) (hgT : Gl X T := by rfl) (hnT : T ≠ "__name__" := by decide) (hdT : (T == ("__debug__" : PySem.Str)) = false := by decide)
    (hs : starEach [e, Expr.Name T pt] X.env = (false, eval e X.env) :: starEach [Expr.Name T pt] X.env := by rfl) (hs2 : starEach [Expr.Name T pt] X.env = (false, eval (Expr.Name T pt) X.env) :: starEach [] X.env := by rfl) (hp : (backTo pos (starEach [Expr.Name T pt] X.env)).any (·.1) = false := by rfl) :
    PE X (.Call (.Name "isinstance" p) [e, .Name T pt] [] pos) (LE c (dIsi Tn t)) :=
  (pe_callB call_isi hg hm PyProof.Rows.boot_isinstance (pa_cons h (pa_cons (pe_bltn (v := .ty Tn) hgT hT hb rfl hnT hdT) pa_nil hs2) hs) (he := hs) (hpl := hp)).weak fun σ H Q ⟨s, R, rp, q, f⟩ => ⟨s, _, rp, q, fun d k ⟨n, b, h1, h2, h3⟩ v H1 r1 a1 e1 =>
    ⟨v, _, _, _, b, rfl, .ty Tn, hK ▸ Rl.ty e1.all h1, kit_ty h2, f _ k h3 _ H1 r1 a1 (.bl _)⟩⟩
theorem pd_isi2 (hK : c.K = X.K) (hm : X.mg "isinstance" = none) {T U : PySem.Str} {Tn Un : String} (hT : X.mg T = none) (hU : X.mg U = none) (hb : bootBuiltins T = some (.type Tn)) (hbU : bootBuiltins U = some (.type Un)) {e : Expr} {t : DE} {pt pu ptt : Pos} {kk} (h : PE X e (LE c t)) (hg : Gl X "isinstance" := by rfl) (hgT : Gl X T := by rfl) (hgU : Gl X U := by rfl) (hnT : T ≠ "__name__" := by decide) (hdT : (T == ("__debug__" : PySem.Str)) = false := by decide) (hnU : U ≠ "__name__" := by decide) (hdU : (U == ("__debug__" : PySem.Str)) = false := by decide)
    (hsT : starEach [Expr.Name T pt, Expr.Name U pu] X.env = (false, eval (Expr.Name T pt) X.env) :: starEach [Expr.Name U pu] X.env := by rfl) (hsU : starEach [Expr.Name U pu] X.env = (false, eval (Expr.Name U pu) X.env) :: starEach [] X.env := by rfl)
    (hs : starEach [e, Expr.Tuple [Expr.Name T pt, Expr.Name U pu] kk ptt] X.env = (false, eval e X.env) :: starEach [Expr.Tuple [Expr.Name T pt, Expr.Name U pu] kk ptt] X.env := by rfl) (hs2 : starEach [Expr.Tuple [Expr.Name T pt, Expr.Name U pu] kk ptt] X.env = (false, eval (Expr.Tuple [Expr.Name T pt, Expr.Name U pu] kk ptt) X.env) :: starEach [] X.env := by rfl) (hp : (backTo pos (starEach [Expr.Tuple [Expr.Name T pt, Expr.Name U pu] kk ptt] X.env)).any (·.1) = false := by rfl) :
    PE X (.Call (.Name "isinstance" p) [e, .Tuple [.Name T pt, .Name U pu] kk ptt] [] pos) (LE c (dIsi2 Tn Un t)) :=
  (pe_callB call_isiT hg hm PyProof.Rows.boot_isinstance (pa_cons h (pa_cons (pe_tup (pa_cons (pe_bltn (v := .ty Tn) hgT hT hb rfl hnT hdT) (pa_cons (pe_bltn (v := .ty Un) hgU hU hbU rfl hnU hdU) pa_nil hsU) hsT)) pa_nil hs2) hs) (he := hs) (hpl := hp)).weak fun σ H Q ⟨s, R, rp, q, f⟩ => ⟨s, _, rp, q, fun d k ⟨n, a, b, h1, h2, h2', h3⟩ v H1 r1 a1 e1 => by
    refine ⟨by show 2 ≤ sizeLine; decide, fun tp hn => ?_⟩
    have nw := r1.new (o := .tup [.ty Tn, .ty Un]) hn
    refine ⟨v, tp, _, _, [.type Tn, .type Un], a || b, rfl, upd_same, .cons (.ty Tn) (.cons (.ty Un) .nil), hK ▸ Rl.ty (e1.mono nw.2.sub).all h1, ?_, f _ k h3 _ _ nw.1 (a1.trans nw.2) (.bl _)⟩
    refine kitAny_cons (kit_ty h2) (fun ha => ?_) (fun ha => by rw [ha]; rfl)
    rw [ha]
    exact kitAny_cons (kit_ty h2') (fun hb => by rw [hb]; exact kitAny_nil) (fun hb => by rw [hb]; rfl)⟩
end
end DL
namespace PySem
open Builtin
end PySem
namespace DL
open PySem L2
open PySem.W (Frag)
end DL
namespace DL
open PySem L2
open PySem.W (Frag)
abbrev iScr (i : Nat) : DI := fun s Q => ∃ ns : List Int, s.sl[i]? = some (.scr ns) ∧ Q (ns.map .int) s.k
abbrev iScE (i : Nat) : DI := fun s Q => ∃ ns : List Int, s.sl[i]? = some (.scr ns) ∧ Q (enumD 0 (ns.map .int)) s.k
theorem Yl.scr {c : C} {s0 : S} {Hs : Hp} {K : Frag} {a : Addr} {vs : List V} {ds : List D} (hK : c.K = K) (h : SqL c.K (c.hid s0.X Hs) a vs) (r : RlA c.K (c.hid s0.X Hs) vs ds) : Yl c s0 Hs (Itl K a) ds := fun i s σ H rp ad => by
  have h1 : SqL K H a vs := hK ▸ (ad.trans (wo_sub _ _)).sl h
  have r1 := r.mono ad
  refine ⟨fun hl => ⟨vs, h1, by rw [r.len]; exact hl⟩, fun d hd => ?_⟩
  obtain ⟨v, hv, hr⟩ := r1.getD hd
  refine ⟨⟨vs, v, h1, hv⟩, fun x H' ⟨e1, e2⟩ => ?_⟩
  subst e1
  have e3 := e2 vs h1
  rw [hv] at e3
  cases e3
  exact ⟨rp, AdvE.refl, hr⟩
theorem Yl.scrE {c : C} {s0 : S} {Hs : Hp} {K : Frag} {a : Addr} {vs : List V} {ds : List D} (hK : c.K = K) (h : SqL c.K (c.hid s0.X Hs) a vs) (r : RlA c.K (c.hid s0.X Hs) vs ds) : Yl c s0 Hs (Ite K a) (enumD 0 ds) := fun i s σ H rp ad => by
  have h1 : SqL K H a vs := hK ▸ (ad.trans (wo_sub _ _)).sl h
  have r1 := r.mono ad
  refine ⟨fun hl => ⟨vs, h1, by rw [r.len, ← enum_len ds 0]; exact hl⟩, fun d hd => ?_⟩
  obtain ⟨e, he, rfl⟩ := enum_at hd
  obtain ⟨v, hv, hr⟩ := r1.getD he
  refine ⟨⟨vs, v, h1, hv⟩, fun x H' ⟨T, y, e1, e2, e3, e4⟩ => ?_⟩
  subst e1 e3
  have e5 := e4 vs h1
  rw [hv] at e5
  cases e5
  rw [Nat.zero_add]
  exact Yl.pair rp e2 (.int _) hr
section
variable {X : Cx} {c : C} {tg : Expr}
theorem pid_scr (hK : c.K = X.K) (i : Nat) {x : PySem.Str} {pn : Pos} (hN : X.N[i]? = some x := by rfl) (hv : Vis X.env.scope x := by first | exact Or.inl rfl | exact Or.inr (Or.inl rfl) | exact Or.inr (Or.inr rfl)) (hd : (x == ("__debug__" : PySem.Str)) = false := by decide) (hcd : (x == ("__classdict__" : PySem.Str)) = false := by decide) :
    PI X tg (.Name x pn) (LI c (iScr i)) :=
  PI.weak (pi_list (pe_var hN hv hd hcd)) fun σ H R ⟨s, Z, rp, ⟨ns, hs, hz⟩, f⟩ => by
    obtain ⟨a, e, h⟩ := rp.slot i _ hs
    exact ⟨_, e, a, rfl, ⟨_, hK ▸ (wo_sub _ _).sl h⟩, f _ s.k hz _ H rp AdvE.refl (Yl.scr hK h (RlA.ints ns))⟩
theorem pid_scrE (hK : c.K = X.K) (i : Nat) {x : PySem.Str} {pn p pos tpos : Pos} {elts : List Expr} {kk : Nat} (hm : X.mg "enumerate" = none) (hN : X.N[i]? = some x := by rfl) (hv : Vis X.env.scope x := by first | exact Or.inl rfl | exact Or.inr (Or.inl rfl) | exact Or.inr (Or.inr rfl)) (hd : (x == ("__debug__" : PySem.Str)) = false := by decide) (hcd : (x == ("__classdict__" : PySem.Str)) = false := by decide)
    (hg : Gl X "enumerate" := by rfl) (hs : starEach [Expr.Name x pn] X.env = [(false, eval (Expr.Name x pn) X.env)] := by rfl) : PI X (.Tuple elts kk tpos) (.Call (.Name "enumerate" p) [.Name x pn] [] pos) (LI c (iScE i)) :=
  PI.weak (pi_enum hg hm (pa_cons (pe_var hN hv hd hcd) pa_nil hs) hs) fun σ H R ⟨s, Z, rp, ⟨ns, hs, hz⟩, f⟩ => by
    obtain ⟨a, e, h⟩ := rp.slot i _ hs
    exact ⟨_, e, a, _, rfl, hK ▸ (wo_sub _ _).sl h, f _ s.k hz _ H rp AdvE.refl (Yl.scrE hK h (RlA.ints ns))⟩
end
def spS (K : Frag) (sp : List Int → (D → Prop) → Prop) : Sp := fun vs H Q _ => ∃ (a : Addr) (ns : List Int) (R : D → Prop), vs = [.ref a] ∧ SqL K H a (ns.map V.int) ∧ sp ns R ∧ ∀ d, R d → ∀ v H', Sub (wo H []) (wo H' []) → TbK H H' → Rl K H' v d → Q v H'
theorem Sub.out {A B : Hp} (s : Sub (wo A []) (wo B [])) {b : Addr} {o : HO} (h : A b = some o) (n : NoTb o := by intro _ z; cases z) : B b = some o := (wo_ne (s b o (wo_of (by simp) h n))).2
theorem sl_in {K : Frag} {A : Hp} {a : Addr} {vs : List V} (h : SqL K A a vs) : SqL K (wo A []) a vs := by
  rcases h with (h | ⟨o, h⟩) | h
  · exact .inl (.inl (wo_of (by simp) h))
  · exact .inl (.inr ⟨o, wo_of (by simp) h⟩)
  · exact .inr h
section
variable {P : Program} {w : World} {K : Frag} {mg : PySem.Str → Option Value} {base : Heap}
theorem okS {x qual : PySem.Str} {st : Stmt} {f : Addr} {fd : FuncData} {N : List PySem.Str} {y : PySem.Str} {k : Nat} {sp : List Int → (D → Prop) → Prop} (F : Fun K x qual st f fd) (Sc : FnScope N [y] (defScope st)) (ow : List Nat)
    (body : ∃ t : DS, (∀ (cdv : Value) (A : Around) (outer : List Env) (s : Shared) (H : Hp) (E : XK), Room k (A.deeper (PyProof.Rows.envOfC qual (defScope st) s.heap.objs.size f cdv)) →
        PSs (cxOf CX0 P w K mg base N qual (defScope st) f cdv A outer s H E).nox (defBody st) (LS ⟨K, none, [], H, ow⟩ t)) ∧
      ∀ ns R, sp ns R → t { nx := fun _ => R .non, rt := fun d _ => R d } ⟨[], .scr ns :: List.replicate (N.length - 1) .no, 0⟩) :
    FnOk P w K mg base CX0 (k + 1) f fd [y] (spS K sp) := by
  obtain ⟨t, hb, hr⟩ := body
  refine F.ok Sc (fun vs H Q E ⟨a, ns, R, h, _⟩ => by rw [h]; rfl) fun cdv A outer s H vs Q E room h => ?_
  obtain ⟨a, ns, R, rfl, ha, hsp, fin⟩ := h
  refine ⟨LS ⟨K, none, [], H, ow⟩ t, hb cdv A outer s H E room, ⟨[], .scr ns :: List.replicate (N.length - 1) .no, 0⟩, _, ?_, hr ns R hsp, ?_⟩
  · refine ⟨Sub.refl _, fun _ h => (nomatch h), fun _ h => h, fun _ h => (nomatch h), fun _ h => (nomatch h), trivial, fun i z e => ?_, fun i j p q ds es e _ _ => ?_, ?_, .refl, fun _ h => (nomatch h)⟩
    · cases i with
      | zero =>
        obtain rfl : Sl.scr ns = z := Option.some.inj e
        exact ⟨a, start_get rfl, sl_in ha⟩
      | succ i =>
        have e : (List.replicate (N.length - 1) Sl.no)[i]? = some z := e
        rw [List.getElem?_replicate] at e
        split at e
        · cases e; trivial
        · cases e
    · have e : (Sl.scr ns :: List.replicate (N.length - 1) Sl.no)[i]? = some (.own p ds) := e
      have mem := List.mem_of_getElem? e
      simp at mem
    · have : 1 ≤ N.length := by have := congrArg List.length Sc.pre; rw [List.length_take] at this; simp at this; omega
      show (Sl.scr ns :: List.replicate (N.length - 1) Sl.no).length = (L2.start N [.ref a]).length
      unfold L2.start
      simp
      
  · have go : ∀ d v H', Sub (wo H []) (wo H' []) → TbK H H' → Rl K (wo H' []) v d → R d → Q v H' := fun d v H' sb tb e r => fin d r v H' sb tb (e.mono (wo_sub _ _))
    exact ⟨fun s' σ' H' r _ q => go .non .non H' (r.sub.trans r.sub0) r.tb .non q, fun _ _ _ _ _ q => q, fun _ _ _ _ _ q => q, fun d k v H' fi e r => go d v H' fi.sub fi.tb e r⟩
end
end DL
namespace DL
open PySem L2
open PySem.W (Frag)
abbrev fldD {α : Type} (ns : List PySem.Str) (xs : List α) (f : PySem.Str) : Option α := (ns.zip xs).lookup f
theorem fld_rl {K : Frag} {H : Hp} {f : PySem.Str} : ∀ {ns : List PySem.Str} {vs : List V} {ds : List D} {d : D}, RlA K H vs ds → fldD ns ds f = some d → ∃ v, fldD ns vs f = some v ∧ Rl K H v d
  | [], _, _, _, _, h => by simp [fldD] at h
  | n :: ns, _, _, _, .nil, h => by simp [fldD] at h
  | n :: ns, v :: vs, d' :: ds, d, .cons r q, h => by
    unfold fldD at h ⊢
    rw [List.zip_cons_cons, List.lookup_cons] at h ⊢
    cases e : (f == n) with
    | true => rw [e] at h; cases h; exact ⟨v, rfl, r⟩
    | false => rw [e] at h; exact fld_rl q h
theorem Rl.insE {K : Frag} {H : Hp} {v : V} {C : Addr} {ns : List PySem.Str} {ds : List D} (h : Rl K H v (.ins C ns ds)) : ∃ a dx vs, v = .ref a ∧ H a = some (.ins C dx (ns.zip vs)) ∧ ns.length = vs.length ∧ RlA K H vs ds := by
  cases h with
  | ins h l r => exact ⟨_, _, _, rfl, h, l, r⟩
abbrev dFld (C : Addr) (f : PySem.Str) (t : DE) : DE := fun s Q => t s fun d k => ∃ ns xs e, d = .ins C ns xs ∧ fldD ns xs f = some e ∧ Q e k
section
variable {X : Cx} {c : C} {pos p : Pos} {e : Expr} {t : DE}
theorem pd_fld (hK : c.K = X.K) {C : Addr} {f : PySem.Str} (hC : Cls X.K C) (hn : NoAttr X.K C f) (ha : PE X e (LE c t)) (hb : attributeBase e f X.env (eval e X.env) = eval e X.env := by rfl) : PE X (.Attribute e f pos) (LE c (dFld C f t)) :=
  (pe_fld ha hb).weak fun σ H Q ⟨s, R, rp, q, fn⟩ => ⟨s, _, rp, q, fun d k ⟨ns, xs, e', hd, he, hR⟩ v H1 r1 a1 e1 => by
    subst hd
    obtain ⟨a, dx, vs, rfl, h1, l, r⟩ := e1.insE
    obtain ⟨u, h2, h3⟩ := fld_rl r he
    exact ⟨a, C, dx, _, u, rfl, wo_sub _ _ _ _ h1, hC, hn, h2, fn e' k hR u H1 r1 a1 h3⟩⟩
end
section
variable {X : Cx}
theorem call_lenO {C f : Addr} {fd : FuncData} {ps : List PySem.Str} {sp : Sp} {k : Nat} (hm : Meth X.K C "__len__" f) (F : FnOk X.prog X.w X.K X.mg X.base CX0 k f fd ps sp) (hr : Room (k + 1) X.A) (hb : Binds X.K fd ps []) :
    CallR X (.builtin "len") (fun xs H Q => ∃ a dx fs, xs = [.ref a] ∧ H a = some (.ins C dx fs) ∧ sp [.ref a] H (fun v H' => ∃ n : Nat, v = .int n ∧ n < 2 ^ 63 ∧ Q (.int n) H') E0) := by
  intro pins s σ H xs us Q I r ⟨a, dx, fs, hx, ea, h⟩
  subst hx
  obtain ⟨u, rfl, rx⟩ := vals1 r
  obtain rfl : u = Value.ref a := rx
  obtain ⟨mA, O, _, _, _, _⟩ := ins_get I.hok ea
  obtain ⟨od, J, _⟩ := O.look
  refine Calls.call_function_entry kind_len plain_len entry_len (args_len1 _) ?_
  unfold Builtin.«len»
  refine wpAny_bind (wpAny_pure ?_)
  refine wpAny_bind (PySem.W.special_fn I.kIn J hm.at_ (beq_iff_eq.mp hm.fn) ?_)
  have hl : ([Value.ref a] ++ []).length = ps.length := F.len _ _ _ _ h
  refine wpAny_call (codeAny_mono (F.run X.A.in1 X.stack s H ⟨[.ref a], []⟩ [.ref a] [.ref a] _ E0 hr.in1 I.env0.in1 (hb s [.ref a] I.kIn hl) (.cons rfl .nil) h) fun r s' hq => ?_)
  cases r with
  | error e => exact hq.elim
  | ok fl =>
    cases fl with
    | next => exact hq.elim
    | brk => exact hq.elim
    | cont => exact hq.elim
    | ret u =>
      obtain ⟨v, H', I', rv, n, rfl, hn, hQ⟩ := I.after hq
      obtain ⟨t, rfl⟩ := rv
      refine wpAny_bind (wpAny_holding (wpAny_pure ?_))
      refine wpAny_bind (wpAny_letGo ?_)
      show wpAny _ _ (if (n : Int) < 0 then _ else _) _ _ _
      rw [if_neg (by omega)]
      show wpAny _ _ (if (n : Int) ≥ 2 ^ 63 then _ else _) _ _ _
      rw [if_neg (by omega)]
      exact wpAny_bind (wpAny_mkInt (wpAny_pure ⟨_, rfl, .int n, H', I'.tok _, ⟨_, rfl⟩, hQ⟩))
end
structure LenD (P : Program) (w : World) (K : Frag) (mg : PySem.Str → Option Value) (base : Heap) (k : Nat) (C : Addr) (sp : DSp) : Prop where
  ex : ∃ f fd ps, Meth K C "__len__" f ∧ FnOk P w K mg base CX0 k f fd ps (spD K false sp) ∧ Binds K fd ps []
abbrev dLenO (C : Addr) (sp : DSp) (t : DE) : DE := fun s Q => t s fun d k => (∃ ns xs, d = .ins C ns xs) ∧ sp [d] 0 fun r _ => ∃ n : Nat, r = .int n ∧ n < 2 ^ 63 ∧ Q (.int n) k
section
variable {X : Cx} {c : C} {k j : Nat} {p pos : Pos} {e : Expr} {t : DE} {Cl : Addr} {sp : DSp}
theorem pd_lenO (hK : c.K = X.K) (hm : X.mg "len" = none) (L : LenD X.prog X.w X.K X.mg X.base k Cl sp) (hr : Room j X.A) (hk : k + 1 ≤ j) (he : PE X e (LE c t)) (hg : Gl X "len" := by rfl) (hs : starEach [e] X.env = (false, eval e X.env) :: starEach [] X.env := by rfl) (hpl : (backTo pos (starEach [] X.env)).any (·.1) = false := by rfl) :
    PE X (.Call (.Name "len" p) [e] [] pos) (LE c (dLenO Cl sp t)) := by
  obtain ⟨f, fd, ps, M, F, B⟩ := L.ex
  refine (pe_callB (call_lenO M F (hr.mono hk) B) hg hm PySem.boot_len (pa_cons he pa_nil hs) (he := hs) (hpl := hpl)).weak fun σ H Q ⟨s, R, rp, q, fn⟩ => ⟨s, _, rp, q, fun d k1 ⟨⟨ns, xs, hd⟩, hsp⟩ v H1 r1 a1 e1 => ?_⟩
  subst hd
  obtain ⟨a, dx, us, rfl, h1, l, r⟩ := e1.insE
  refine ⟨a, dx, _, rfl, wo_sub _ _ _ _ h1, ?_⟩
  refine ⟨none, Ml c.M ++ s.X, 0, _, _, _, ⟨rfl, rfl⟩, ⟨fun a _ => by simp [Ml], r1.allHid, trivial, hK ▸ RlA.cons e1 .nil, r1.allTb⟩, hsp, fun d k' ⟨n, hd, hn, hR⟩ v H' af er => ?_⟩
  subst hd
  cases er.intE
  have z := Rep.after (s := s.at k1) r1 ⟨af.sub, af.old, af.m, af.tb⟩
  exact ⟨n, rfl, hn, fn _ k1 hR _ H' z.1 (a1.trans z.2) (.int _)⟩
end
def spI (K : Frag) (C : Addr) (sp : DSp) : Sp := fun vs H Q _ => ∃ (X0 : List Addr) (x dx : Addr) (ds : List D) (ws : List V) (R : D → Nat → Prop), vs = .ref x :: ws ∧ H x = some (.ins C dx []) ∧ H dx = some (.own x) ∧ dx ≠ x ∧ (∀ a ∈ X0, H a ≠ none) ∧ (∀ a ∈ X0, ∀ ps, H a ≠ some (.tbl ps)) ∧ x ∉ X0 ∧ dx ∉ X0 ∧
  RlA K (wo H (x :: X0)) ws ds ∧ sp ds 0 R ∧ ∀ d k', R d k' → ∀ H', Sub (wo H (x :: X0)) (wo H' X0) → (∀ a ∈ X0, H' a = H a) → TbK H H' → Rl K (wo H' X0) (.ref x) d → Q .non H'
structure MakD (P : Program) (w : World) (K : Frag) (mg : PySem.Str → Option Value) (base : Heap) (k : Nat) (x : PySem.Str) (C : Addr) (sp : DSp) : Prop where
  ex : ∃ f fd ps, Mk K C f ∧ FnOk P w K mg base CX0 k f fd ps (spI K C sp) ∧ mg x = some (.ref C) ∧ Binds K fd ps []
section
variable {X : Cx} {c : C} {k j : Nat} {p pos : Pos} {e : Expr} {es : List Expr} {t : DA} {Cl : Addr} {x : PySem.Str} {sp : DSp}
theorem pd_make (hK : c.K = X.K) (F : MakD X.prog X.w X.K X.mg X.base k x Cl sp) (hr : Room j X.A) (hk : k + 1 ≤ j) (ha : PA X (e :: es) (LA c t)) (hg : Gl X x := by rfl) (hdb : (x == ("__debug__" : PySem.Str)) = false := by decide) (he : starEach (e :: es) X.env = (false, eval e X.env) :: starEach es X.env := by rfl) (hpl : (backTo pos (starEach es X.env)).any (·.1) = false := by rfl) :
    PE X (.Call (.Name x p) (e :: es) [] pos) (LE c (dCall sp t)) := by
  obtain ⟨f, fd, ps, M, G, hm, b⟩ := F.ex
  refine (pe_make M G (hr.mono hk) hg hm b .nil pass0 ha hdb he hpl).weak fun σ H Q ⟨s, R, rp, q, fn⟩ => ⟨s, _, rp, q, fun ds k1 h1 vs H1 r1 a1 e1 y dx hy hd ne => ?_⟩
  have al := r1.allHid
  have ny : y ∉ Ml c.M ++ s.X := fun z => al y z hy
  have nd : dx ∉ Ml c.M ++ s.X := fun z => al dx z hd
  have sb : Sub (wo H1 (Ml c.M ++ s.X)) (wo (upd (upd H1 dx (.own y)) y (.ins Cl dx [])) (y :: (Ml c.M ++ s.X))) := fun a o h => by
    obtain ⟨n, h⟩ := wo_ne h
    have n1 : a ≠ y := fun z => by rw [z, hy] at h; cases h
    have n2 : a ≠ dx := fun z => by rw [z, hd] at h; cases h
    exact wo_of (fun z => (List.mem_cons.mp z).elim n1 n) (by rw [upd_ne n1, upd_ne n2]; exact h)
  have od : ∀ a ∈ Ml c.M ++ s.X, (upd (upd H1 dx (.own y)) y (.ins Cl dx [])) a = H1 a := fun a h => by
    rw [upd_ne (fun z => ny (by rw [← z]; exact h)), upd_ne (fun z => nd (by rw [← z]; exact h))]
  refine ⟨Ml c.M ++ s.X, y, dx, ds, vs, _, by rw [List.append_nil], upd_same, by rw [upd_ne ne]; exact upd_same, ne, fun a h => by rw [od a h]; exact al a h, fun a h => by rw [od a h]; exact r1.allTb a h, ny, nd, (hK ▸ e1 : RlA X.K _ vs ds).mono sb, h1, fun d k' hR H' s2 o2 tb er => ⟨rfl, ?_⟩⟩
  have z := Rep.after (s := s.at k1) r1 (H' := H') (k := 0) ⟨sb.trans s2, fun a h => (o2 a h).trans (od a h), trivial, (TbK.new hd).trans ((TbK.new (by rw [upd_ne ne.symm]; exact hy)).trans tb)⟩
  exact fn d k1 hR _ H' z.1 (a1.trans z.2) (hK ▸ er)
end
end DL
namespace DL
open PySem L2
open PySem.W (Frag)
end DL
namespace DL
open PySem L2
open PySem.W (Frag)
end DL
namespace L2G
open PySem PySem.Spec PyProof.Rows L2
structure FnG (P : Program) (w : World) (K : PySem.W.Frag) (mg : Str → Option Value) (base : Heap) (k : Nat) (f : Addr) (fd : FuncData) (ps : List Str) (sp : Sp) : Prop where
  len : ∀ vs H Q E, sp vs H Q E → vs.length = ps.length
  run : ∀ (A : Around) (ou : List Env) (s : Shared) (H : Hp) (ar : Args) (us : List Value) (vs : List V) (Q : VK) (E : XK), Room k A → A.guards = some [] → Env0 P w K mg base A ou s H → BindsTo s fd ar (ps.zip us) → Vals vs us → sp vs H Q E →
    codeAny (model P w) A (.call (.ref f) ar) (CR CX0 ou P w H s Q E) s
section
variable {P : Program} {w : World} {K : PySem.W.Frag} {mg : Str → Option Value} {base : Heap}
theorem FnG.of {k : Nat} {f : Addr} {fd : FuncData} {ps : List Str} {sp : Sp} (F : FnOk P w K mg base CX0 k f fd ps sp) : FnG P w K mg base k f fd ps sp :=
  ⟨F.len, fun A ou s H ar us vs Q E r _ e b v h => F.run A ou s H ar us vs Q E r e b v h⟩
end
end L2G
namespace DL
open PySem L2 L2G
open PySem.W (Frag)
mutual
def D.wg : D → Nat
  | .non => 4
  | .bl _ => 5
  | .int _ => 1921
  | .str x => (reprText x).length
  | .lst xs => wgA xs + 2
  | .tup xs => wgA xs + 4
  | .dic => 2
  | .ins _ _ _ => 0
  | .exc _ _ _ => 0
def wgA : List D → Nat
  | [] => 0
  | d :: r => D.wg d + 2 + wgA r
end
mutual
def D.shw : D → Bool
  | .non => true
  | .bl _ => true
  | .int i => decide (i.natAbs.log2 < 1920)
  | .str _ => true
  | .lst xs => shwA xs
  | .tup xs => shwA xs
  | .dic => true
  | .ins _ _ _ => false
  | .exc _ _ _ => false
def shwA : List D → Bool
  | [] => true
  | d :: r => D.shw d && shwA r
end
theorem textFrom_up : ∀ (ts : List PySem.Str) (k : Nat) (acc : PySem.Str), (textFrom k acc ts).length ≤ acc.length + piled ts
  | [], _, acc => Nat.le_add_right _ _
  | t :: r, k, acc => by
    have ih := textFrom_up r (k + 1) (acc ++ (if k > 0 then ", " else "" : String) ++ t)
    have e : (acc ++ (if k > 0 then ", " else "" : String) ++ t).length = acc.length + (if k > 0 then 2 else 0) + t.length := by
      rw [strLen_append, strLen_append]
      split <;> rfl
    rw [e] at ih
    rw [piled_cons]
    show (textFrom (k + 1) _ r).length ≤ _
    have : (if k > 0 then 2 else 0 : Nat) ≤ 2 := by split <;> omega
    omega
theorem listText_up (ts : List PySem.Str) : (listText ts).length ≤ piled ts + 2 := by
  unfold listText
  rw [strLen_append]
  have := textFrom_up ts 0 "["
  have e1 : (("[" : String) : PySem.Str).length = 1 := rfl
  have e2 : (("]" : String) : PySem.Str).length = 1 := rfl
  rw [e1] at this
  rw [e2]
  omega
theorem tupleText_up (ts : List PySem.Str) : (tupleText ts).length ≤ piled ts + 4 := by
  unfold tupleText
  rw [strLen_append, strLen_append]
  have e1 : ((("(" : String) : PySem.Str)).length = 1 := rfl
  have e3 : (((if ts.length == 1 then ",)" else ")" : String) : PySem.Str)).length ≤ 2 := by split <;> decide
  rw [e1]
  cases ts with
  | nil => show 1 + 0 + _ ≤ _; omega
  | cons t r =>
    have := join_length_add (t :: r) (by simp)
    omega
mutual
theorem shown_up : ∀ d : D, d.plain = true → d.shw = true → d.py.shown.length ≤ d.wg ∧ d.py.showable = true ∧ d.py.hasDict = false
  | .non, _, _ => ⟨by decide, rfl, rfl⟩
  | .bl b, _, _ => ⟨by cases b <;> decide, rfl, rfl⟩
  | .int i, _, h => ⟨PyProof.Rows.int_text_len_1921 (of_decide_eq_true h), h, rfl⟩
  | .str x, _, _ => ⟨Nat.le_refl _, rfl, rfl⟩
  | .lst xs, p, h => by
    obtain ⟨h1, h2, h3⟩ := shownA_up xs p h
    refine ⟨?_, h2, h3⟩
    show (listText (PyData.shownAll (pyA xs))).length ≤ wgA xs + 2
    have := listText_up (PyData.shownAll (pyA xs))
    omega
  | .tup xs, p, h => by
    obtain ⟨h1, h2, h3⟩ := shownA_up xs p h
    refine ⟨?_, h2, h3⟩
    show (tupleText (PyData.shownAll (pyA xs))).length ≤ wgA xs + 4
    have := tupleText_up (PyData.shownAll (pyA xs))
    omega
  | .dic, p, _ => by cases p
  | .ins _ _ _, p, _ => by cases p
  | .exc _ _ _, p, _ => by cases p
theorem shownA_up : ∀ ds : List D, plainA ds = true → shwA ds = true → piled (PyData.shownAll (pyA ds)) ≤ wgA ds ∧ PyData.showableAll (pyA ds) = true ∧ PyData.hasDictAll (pyA ds) = false
  | [], _, _ => ⟨Nat.le_refl _, rfl, rfl⟩
  | d :: r, p, h => by
    obtain ⟨p1, p2⟩ := Bool.and_eq_true_iff.mp (show (D.plain d && plainA r) = true from p)
    obtain ⟨h1, h2⟩ := Bool.and_eq_true_iff.mp (show (D.shw d && shwA r) = true from h)
    obtain ⟨a1, a2, a3⟩ := shown_up d p1 h1
    obtain ⟨b1, b2, b3⟩ := shownA_up r p2 h2
    refine ⟨?_, ?_, ?_⟩
    · show piled (d.py.shown :: PyData.shownAll (pyA r)) ≤ D.wg d + 2 + wgA r
      rw [piled_cons]
      omega
    · show (d.py.showable && PyData.showableAll (pyA r)) = true
      rw [a2, b2]; rfl
    · show (d.py.hasDict || PyData.hasDictAll (pyA r)) = false
      rw [a3, b3]; rfl
end
structure Shw (d : D) : Prop where
  plain : d.plain = true
  shw : d.shw = true
  dep : d.py.depth ≤ 60
  wg : d.wg ≤ sizeLine
abbrev dRepD (t : DE) : DE := fun s Q => t s fun d k => (match d with | .lst _ => True | .tup _ => True | _ => False) ∧ Shw d ∧ Q (.str d.py.shown) k
section
variable {X : Cx} {c : C} {p pos : Pos}
theorem call_reprD (gu : X.A.guards = some []) (hu : X.A.units + 64 < cLine) : CallR X (.builtin "repr") (fun xs H Q => ∃ (a : Addr) (d : PyData), xs = [.ref a] ∧ Dp X.K H (.ref a) d ∧ d.showable = true ∧ d.hasDict = false ∧ d.depth ≤ 60 ∧ d.shown.length ≤ sizeLine ∧ Q (.str d.shown) H) := by
  intro pins s σ H xs us Q I r ⟨a, d, e, dp, h1, h2, h3, h4, q⟩
  subst e
  obtain ⟨u, rfl, ru⟩ := vals1 r
  obtain ⟨as, rd⟩ := Dp.reads I d _ u dp ru
  obtain rfl : u = Value.ref a := ru
  exact repr_of_reads' rd h1 (fun e => by rw [h2] at e; cases e) gu (by omega) (fun _ _ e => e) (fun h' u tk k => ⟨.str d.shown, H, I.kept k, ⟨u, rfl⟩, q⟩) h4
theorem pd_reprD (hK : c.K = X.K) (gu : X.A.guards = some []) {j : Nat} (hr : Room j X.A) (hm : X.mg "repr" = none) {e : Expr} {t : DE} (h : PE X e (LE c t)) (hg : Gl X "repr" := by rfl) (hs : starEach [e] X.env = (false, eval e X.env) :: starEach [] X.env := by rfl) (hp : (backTo pos (starEach [] X.env)).any (·.1) = false := by rfl) :
    PE X (.Call (.Name "repr" p) [e] [] pos) (LE c (dRepD t)) :=
  (pe_callB (call_reprD gu hr.units) hg hm (by first | exact PySem.boot_repr | rfl) (pa_cons h pa_nil hs) (he := hs) (hpl := hp)).weak fun σ H Q ⟨s, R, rp, q, f⟩ => ⟨s, _, rp, q, fun d k ⟨h1, h2, h3⟩ v H1 r1 a1 e1 => by
    obtain ⟨b1, b2, b3⟩ := shown_up d h2.plain h2.shw
    have dp := e1.dp d h2.plain
    have hz : d.py.shown.length ≤ sizeLine := Nat.le_trans b1 h2.wg
    have fin := f _ k h3 (.str d.py.shown) H1 r1 a1 (.str _)
    have sub : Dp X.K H1 v d.py := (e1.mono (wo_sub _ _) |> fun z => hK ▸ z.dp d h2.plain)
    cases d with
    | lst xs =>
      obtain ⟨a, vs, rfl, _, _⟩ := e1.lstE
      exact ⟨a, _, rfl, sub, b2, b3, h2.dep, hz, fin⟩
    | tup xs =>
      obtain ⟨a, vs, rfl, _, _⟩ := e1.tupE
      exact ⟨a, _, rfl, sub, b2, b3, h2.dep, hz, fin⟩
    | _ => exact h1.elim⟩
end
end DL
namespace L2G
open PySem PySem.Spec PyProof.Rows L2 HT
end L2G
namespace DL
open PySem L2 L2G
open PySem.W (Frag)
section
variable {X : Cx} {c : C}
theorem pd_negc {i : Int} {kk : Nat} {p1 p2 : Pos} : PE X (.UnaryOp .USub (.Constant (.int i) kk p1) p2) (LE c (dC (.int (-i)))) :=
  (pe_un un_neg pe_int).weak fun σ H Q ⟨s, R, rp, q, f⟩ => ⟨i, rfl, f _ _ q _ H rp AdvE.refl (.int _)⟩
end
end DL
namespace DL
open PySem L2
open PySem.W (Frag)
section
variable {X : Cx} {c : C} {tg : Expr}
theorem pid_seq (hK : c.K = X.K) {l : Expr} {t : DE} (h : PE X l (LE c t)) : PI X tg l (LI c (iSeq t)) := by
  refine ⟨fun pins s σ H R I ⟨st, Z, rp, q, f⟩ => ?_⟩
  refine thn (h.run pins s σ H (fun v H1 => ∃ d k ds, d.items = some ds ∧ Z ds k ∧ Rep c (st.at k) σ H1 ∧ AdvE c st.X H H1 ∧ Rl c.K (c.hid st.X H1) v d) I
    ⟨st, _, rp, q, fun d k ⟨ds, h1, h2⟩ v H1 r1 a1 e1 => ⟨d, k, ds, h1, h2, r1, a1, e1⟩⟩) fun v s1 ⟨x, H1, I1, rv, d, k, ds, hd, hz, rp1, a1, e1⟩ => ?_
  have fresh : ∀ b, s1.heap.objs.size ≤ b → H1 b = none := fun b hb => I1.hok.fresh hb
  have one : ∀ b ∈ [s1.heap.objs.size], s1.heap.objs.size ≤ b := fun b hb => by
    rw [List.mem_singleton.mp hb]; exact Nat.le_refl _
  cases d <;> first | cases hd | skip
  · obtain ⟨a, ws, rfl, h1, r⟩ := e1.lstE
    cases (show _ = Value.ref a from rv)
    obtain ⟨its, rv', p', hz'⟩ := I1.list (SqL.of (wo_sub _ _ _ _ h1) : SqL X.K H1 a ws)
    exact wpAny_pyIter_list p'.isList ⟨_, [s1.heap.objs.size], _, _, H1, rfl, I1.kept (t' := s1.toks) (fun b o e => Heap.get?_push_of_some _ e), turn_list a _,
      ⟨_, Heap.get?_push_size _ rfl, rfl, rfl⟩, fun b hb => I1.fpOk (one b hb) (fresh b (one b hb)), f _ k hz _ H1 rp1 a1 (Yl.list hK h1 r)⟩
  · obtain ⟨a, ws, rfl, h1, r⟩ := e1.tupE
    cases (show _ = Value.ref a from rv)
    obtain ⟨its, rv', p', hz'⟩ := I1.tuple (hK ▸ (wo_sub _ _).st h1 : SqT X.K H1 a ws)
    exact wpAny_pyIter_tuple (show s1.heap.IsTuple a its.toArray from p') ⟨_, [s1.heap.objs.size], _, _, H1, rfl, I1.kept (t' := s1.toks) (fun b o e => Heap.get?_push_of_some _ e), turn_tuple a _,
      ⟨_, Heap.get?_push_size _ rfl, rfl, rfl⟩, fun b hb => I1.fpOk (one b hb) (fresh b (one b hb)), f _ k hz _ H1 rp1 a1 (Yl.tup hK h1 r)⟩
end
end DL
set_option maxHeartbeats 2000000
namespace XE1
open PySem PySem.W PySem.Calls PyProof.Rows PySem.HandSPX Builtin Builtin.ObjectAttr
def iA (f : Str) (p1 p2 : Pos) : Arguments := { posonlyargs := [], args := [{ arg := "self", annotation := none, pos := p1 }, { arg := f, annotation := none, pos := p2 }], vararg := none, kwonlyargs := [], kw_defaults := [], kwarg := none, defaults := [] }
def iB (f : Str) (q1 q2 q3 q4 : Pos) : List Stmt := [.Assign [.Attribute (.Name "self" q1) f q2] (.Name f q3) q4]
def iS (f : Str) : Scope := { kind := .function, names := [(PySem.Str.ofString "self", .local), (f, .local)], isGenerator := false, isCoroutine := false, more := [] }
structure Base (B newId initId : String) (bmB : List Value) : Prop where
  F : ExcBaseFacts B newId initId bmB
  S : StoreFacts B bmB "object.__setattr__" "object"
theorem baseV : Base "ValueError" "ValueError.__new__" "ValueError.__init__" [.type "ValueError", .type "Exception", .type "BaseException", .type "object"] := ⟨PySem.F.excBase_ValueError, PySem.F.store_ValueError⟩
theorem baseO : Base "OverflowError" "OverflowError.__new__" "OverflowError.__init__" [.type "OverflowError", .type "ArithmeticError", .type "Exception", .type "BaseException", .type "object"] := ⟨PySem.F.excBase_OverflowError, PySem.F.store_OverflowError⟩
structure Txt (K : Frag) (mg : Str → Option Value) (x f : Str) (C fI : Addr) : Prop where
  gC : mg x = some (.ref C)
  base : ∃ B newId initId bmB, Base B newId initId bmB ∧ excInitIn K C bmB newId = true ∧ excOver K C bmB = true
  tk : takerIn K C f = some none
  hd : hasDictIn K C = true
  sa : findIn K (.ref C) "__setattr__" = some (some (.builtin "object.__setattr__"))
  iC : findIn K (.ref C) "__init__" = some (some (.ref fI))
  tC : typeIn K (.ref fI) = some (.type "function")
  kC : keepIn K (.ref C) = true
  sb : subIn K (.ref C) (.type "BaseException") = some true
  ty : typeIn K (.ref C) = some (.type "type")
  fx : f = "place" ∨ f = "value" ∨ f = "most"
  fn : ∃ (oc : Value) (od : Option Addr) (kV doc pm : Value) (an : Option Addr) (cdv ct : Value) (osl : Array (Option Value)) (qual : Str) (p1 p2 q1 q2 q3 q4 : Pos),
    K.lookup fI = some ⟨oc, od, .func (fnOf "__init__" qual (iA f p1 p2) (iB f q1 q2 q3 q4) (iS f) .none kV doc pm an cdv ct), osl⟩ ∧ codeIn K cdv qual = true
section
variable {prog : Program} {w : World} {A : Around} {E : Value → Shared → Prop} {R : Result → Shared → Prop} {hp : Heap} {g : Array GenState} {d : Drawn} {t : Nat} {os : OsState}
theorem osaG {K : Frag} {B : String} {bmB : List Value} {name : Str} {tk : Tok} {v : Value} {x C t0 : Addr} (SF : StoreFacts B bmB "object.__setattr__" "object") (X : K.In hp) (hx : hp.get? x = some (excO C t0)) (ov : excOver K C bmB = true) (ht : takerIn K C name = some none) (hd : hasDictIn K C = true)
    (hq : ∀ h' tk' dx, (∀ b o, b ≠ x → hp.get? b = some o → h'.get? b = some o) → hp.objs.size ≤ dx → dx ≠ x → h'.get? x = some { cls := .ref C, dict := some dx, data := .fields #[.ref t0, .none, .none, .none, .bool false, .none] } →
      h'.Ns1 dx (fun y => if y = name then some v else none) → R (.ok (.ret .none)) ⟨h', g, d, tk', os⟩) :
    codeAny (model prog w) A (.call (.builtin "object.__setattr__") ⟨[.ref x, .str name tk, v], []⟩) R ⟨hp, g, d, t, os⟩ := by
  obtain ⟨cd, hc, hh⟩ := any_some hd
  have hxs : x ≠ hp.objs.size := Nat.ne_of_lt (Heap.lt_size hx)
  refine osa_openX SF X (ox := excO C t0) (od := none) ⟨hx, rfl, rfl, trivial⟩ ov ht fun b => ?_
  have hcls : Looks (model prog w) hp (classData C) cd := looks_clsIn X hc
  obtain ⟨nm, bs, mro, ns, qn, hd', sn, sb, ab, col, del⟩ := cd
  dsimp only at hh
  subst hh
  show wpAny _ _ (storeInOwnDict (.ref x) (.ref C) (.str name tk) name v b) _ _ _
  unfold storeInOwnDict ownDictForStores
  repeat (first | with_reducible refine store_in_new ?_ ?_ | with_reducible refine wpAny_loadPart_at hx ?_ | with_reducible refine hcls.at ?_ | wp_step)
  · exact ⟨_, #[], _, (Heap.get?_update_ne _ _ _ _ hxs.symm).trans (Heap.get?_push_at rfl rfl), rfl, fun e he => absurd he (by simp), fun _ => rfl⟩
  · intro h' tk' hn' hs
    have hx1 : (hp.push { cls := .type "dict", data := .dict #[] }).get? x = some (excO C t0) := Heap.get?_push_of_some _ hx
    refine hq h' tk' hp.objs.size (fun b o hb ho => ?_) (Nat.le_refl _) hxs.symm ?_ hn'
    · exact (hs.2 b (Nat.ne_of_lt (Heap.lt_size ho))).trans ((Heap.get?_update_ne _ _ _ _ hb).trans (Heap.get?_push_of_some _ ho))
    · exact (hs.2 x hxs).trans (Heap.get?_update_self _ hx1 rfl)
structure Left (h h' : Heap) (x C dx t1 : Addr) (f : Str) (v : Value) : Prop where
  keep : ∀ b o, b ≠ x → h.get? b = some o → h'.get? b = some o
  obj : h'.get? x = some { cls := .ref C, dict := some dx, data := .fields #[.ref t1, .none, .none, .none, .bool false, .none] }
  big : h.objs.size ≤ dx
  dne : dx ≠ x
  ns : h'.Ns1 dx (fun y => if y = f then some v else none)
theorem one_size (v : Value) : [v].length ≤ sizeLine := by
  rw [sizeLine_eq]
  exact (by decide : 1 ≤ 16777216)
theorem ld {M : Model} {s : Shared} {name : Str} {scope : Scope} {L a : Addr} {cd : Value} {m : Str → Option Value} {x : Str} {pos : Pos} {v : Value} {Q : Value → Shared → Prop} {A : Around} {E : Value → Shared → Prop} (hn : s.heap.Ns L m) (hv : m x = some v) (h : Q v s)
    (hk : scope.kind = .function) (hl : (envOfC name scope L a cd).kindOf x = some .local) (hd : (x == ("__debug__" : Str)) = false) :
    wpAny M A (eval (.Name x pos) (envOfC name scope L a cd)) Q E s := wpAny_Name (wpAny_loadName_local hk hl hn hv h) hd
theorem run_init {K : Frag} {mg : Str → Option Value} {y f : Str} {C fI : Addr} {s : Shared} (T : Txt K mg y f C fI) {x t0 : Addr} {v : Value} (X : K.In s.heap) (hlim : s.heap.NoLimit) (hx : s.heap.get? x = some (excO C t0)) (hroom : A.depth < recursionLimit)
    (hq : ∀ h' tk dx, Left s.heap h' x C dx t0 f v → R (.ok (.ret .none)) { s with heap := h', toks := tk }) :
    codeAny (model prog w) A (.call (.ref fI) ⟨[.ref x, v], []⟩) R s := by
  obtain ⟨oc, od, kV, doc, pm, an, cdv, ct, osl, qual, p1, p2, q1, q2, q3, q4, ho, hcd⟩ := T.fn
  obtain ⟨B, newId, initId, bmB, TB, hex, hov⟩ := T.base
  refine Att.call_fn (binds := [("self", .ref x), (f, v)]) X hlim ho hcd hroom (BindsTo.of_eq (by rcases T.fx with rfl | rfl | rfl <;> first | rfl | with_unfolding_all rfl)) (by rcases T.fx with rfl | rfl | rfl <;> first | rfl | decide | with_unfolding_all rfl) (fun s₁ IC => ?_) rfl rfl rfl
  obtain ⟨h₁, tk₁, rfl⟩ := IC.toInCall.same
  have k : ∀ b o, s.heap.get? b = some o → h₁.get? b = some o := IC.toInCall.keep
  have hn := IC.toInCall.ns
  have X₁ : K.In h₁ := X.keeps k
  have hx₁ := k _ _ hx
  show wpAny _ _ (execs _ _) _ _ _
  refine wpAny_execs_cons (plainObj_wpAny_Assign_Attribute ?_)
  refine ld (v := v) hn (by rcases T.fx with rfl | rfl | rfl <;> first | rfl | with_unfolding_all rfl | kernel_rfl) (ld (v := .ref x) hn (by rcases T.fx with rfl | rfl | rfl <;> first | rfl | with_unfolding_all rfl | kernel_rfl) ?_ rfl (by rcases T.fx with rfl | rfl | rfl <;> rfl) (by decide)) rfl (by rcases T.fx with rfl | rfl | rfl <;> rfl) (by rcases T.fx with rfl | rfl | rfl <;> decide)
  refine set_plain X₁ (ox := excO C t0) (od := none) ⟨hx₁, rfl, rfl, trivial⟩ T.sa ?_
  refine osaG TB.S X₁ hx₁ hov T.tk T.hd (fun h₃ tk₃ dx k₃ dn dne hx₃ hn₃ => ?_)
  show wpAny _ _ (execs _ _) _ _ _
  have z : s.heap.objs.size < h₁.objs.size := hn.lt
  exact wpAny_execs_nil (hq h₃ tk₃ dx ⟨fun b o hb e => k₃ b o hb (k b o e), hx₃, Nat.le_of_lt (Nat.lt_of_lt_of_le z dn), dne, hn₃⟩)
structure Own (h h' : Heap) (e C d : Addr) (f : Str) (v : Value) : Prop where
  keep : ∀ b o, h.get? b = some o → h'.get? b = some o
  new : h.objs.size ≤ e
  obj : ∃ oe vs, h'.get? e = some oe ∧ oe.cls = .ref C ∧ oe.dict = some d ∧ oe.data = .fields vs ∧ vs[1]? = some .none
  dbig : h.objs.size ≤ d
  dne : d ≠ e
  ns : h'.Ns1 d (fun y => if y = f then some v else none)
theorem run_made {K : Frag} {mg : Str → Option Value} {y f : Str} {C fI : Addr} {s : Shared} (T : Txt K mg y f C fI) {v : Value} (X : K.In s.heap) (hlim : s.heap.NoLimit) (hroom : A.depth + 1 < recursionLimit)
    (hq : ∀ h' tk e d, Own s.heap h' e C d f v → R (.ok (.ret (.ref e))) { s with heap := h', toks := tk }) :
    codeAny (model prog w) A (.call (.ref C) ⟨[v], []⟩) R s := by
  obtain ⟨B, newId, initId, bmB, TB, hex, hov⟩ := T.base
  obtain ⟨nm, N, qn, bs, bm, hdct, sn, sub, ab, col, dd, k0, k1, k2, k3, k5, hC, hT⟩ := excInit_of X hex
  obtain ⟨hp, g, dr, tk, os⟩ := s
  have k : ∀ b o, hp.get? b = some o → ((hp.push (kdv_tup [v])).push (excO C hp.objs.size)).get? b = some o := fun b o e => Heap.get?_push_of_some _ (Heap.get?_push_of_some _ e)
  have hget : ((hp.push (kdv_tup [v])).push (excO C hp.objs.size)).get? (hp.objs.size + 1) = some (excO C hp.objs.size) := by heap_get
  refine call_own TB.F hT hC (looks_findIn X T.iC) (fun self => bind_fn X self T.tC) (one_size v) ?_
  refine run_init (s := ⟨(hp.push (kdv_tup [v])).push (excO C hp.objs.size), g, dr, tk, os⟩) T (X.keeps k) (hlim.keeps k) hget ?_ fun h' tk' dx ⟨k', hx, dn, dne, hns⟩ => ?_
  · show A.depth + 1 < recursionLimit
    exact hroom
  · have old : ∀ b o, hp.get? b = some o → h'.get? b = some o := fun b o e => k' b o (Nat.ne_of_lt (Nat.lt_succ_of_lt (Heap.lt_size e))) (k b o e)
    have z : hp.objs.size + 1 + 1 ≤ dx := by
      first
        | (simpa only [Heap.size_push] using dn)
        | exact dn
        | (have q := dn; rw [Heap.size_push, Heap.size_push] at q; exact q)
    exact ⟨rfl, hq h' tk' (hp.objs.size + 1) dx ⟨old, Nat.le_succ _, ⟨_, _, hx, rfl, rfl, rfl, rfl⟩, Nat.le_trans (Nat.le_trans (Nat.le_succ _) (Nat.le_succ _)) z, dne, hns⟩⟩
end
end XE1
namespace DL
open PySem PySem.Spec PyProof.Rows L2
theorem relO_one {f : PySem.Str} {v : V} {v' : Value} (r : RelV v v') (g : PySem.Str) : RelO (List.lookup g [(f, v)]) (if g = f then some v' else none) := by
  by_cases hw : g = f
  · subst hw
    rw [if_pos rfl]
    have q : List.lookup g [(g, v)] = some v := by simp [List.lookup]
    rw [q]
    exact r
  · rw [if_neg hw]
    have qw : (g == f) = false := by simpa using hw
    have q2 : List.lookup g [(f, v)] = none := by simp [List.lookup, qw]
    rw [q2]
    trivial
section
variable {X : Cx} {C fI : Addr} {x f : PySem.Str}
def tMk1 (C : Addr) (f : PySem.Str) (ta : TA) : L2.St → Hp → XK → Prop := fun σ H Q => ta σ H fun vs H1 => ∃ v, vs = [v] ∧ ∀ d, H1 d = none → Q (.ref C) (some d) (upd H1 d (.xd [(f, v)]))
theorem pmk1 {a : Expr} {ta : TA} {p pos : Pos} {k : Nat} (T : XE1.Txt X.K X.mg x f C fI) (hr : Room k X.A) (ha : PA X [a] ta) (hg : Gl X x := by rfl) (hdb : (x == ("__debug__" : PySem.Str)) = false := by decide)
    (he : starEach (a :: []) X.env = (false, eval a X.env) :: starEach [] X.env := by rfl) (hpl : (backTo pos (starEach [] X.env)).any (·.1) = false := by rfl) :
    PMk X (.Call (.Name x p) [a] [] pos) (tMk1 C f ta) := by
  intro pins s σ H Q I h
  refine wpAny_Call_Name_kw (ld_glob I hg T.gC ?_ hdb)
  refine PySem.W.callWith_K (h₀ := X.base) I.ok.mod.kin T.kC (thn (ha.run pos pins s σ H _ I h) fun us s1 hh => ?_) he hpl
  obtain ⟨vs, H1, I1, r1, v, ev, q1⟩ := hh
  subst ev
  refine ⟨I1.kIn, ?_⟩
  cases r1 with
  | cons rv rn =>
    rename_i v' us'
    cases rn
    show wpAny _ _ (call (.ref C) [v']) _ _ _
    have hlim := I1.nolimit
    obtain ⟨hp, g, dr, tk, os⟩ := s1
    refine wpAny_call (XE1.run_made T I1.kIn hlim (by have := hr.dp; omega) fun h' tk' e d M => ?_)
    show MkP X pins σ Q (.ref e) ⟨h', g, dr, tk', os⟩
    obtain ⟨oe, fv, hoe, hc, hd, hdat, h1⟩ := M.obj
    have hns := M.ns
    obtain ⟨G', g1, g2⟩ := restrict h' fun b => decide (b ≠ e)
    have gk : ∀ b, b ≠ e → G'.get? b = h'.get? b := fun b hb => g1 b (decide_eq_true hb)
    have ge : G'.get? e = none := g2 e (by simp)
    have old : ∀ b o, hp.get? b = some o → G'.get? b = some o := fun b o q => (gk b (Nat.ne_of_lt (Nat.lt_of_lt_of_le (Heap.lt_size q) M.new))).trans (M.keep b o q)
    have ob : ObjOk X.prog X.w (upd H1 d (.xd [(f, v)])) G' d (.xd [(f, v)]) :=
      ⟨_, hns.at (fun o q => (gk d M.dne).trans q), fun g => relO_one rv g⟩
    have J : Inv X pins σ (upd H1 d (.xd [(f, v)])) ⟨G', g, dr, tk', os⟩ := I1.laid (t' := tk') old M.dbig ob
    refine ⟨e, oe, fv, ⟨G', g, dr, tk', os⟩, _, .ref C, some d, rfl, J, fun b o q => ?_, ge, hoe, ⟨hc, hd⟩, hdat, h1, ?_, rfl, I1.bare, raises_own T.sb T.ty, q1 d (I1.hok.fresh M.dbig)⟩
    · by_cases hb : b = e
      · have q' : G'.get? b = some o := q
        rw [hb, ge] at q'; cases q'
      · exact (gk b hb).symm.trans q
    · rw [upd_ne (Ne.symm M.dne)]
      exact I1.hok.fresh M.new
end
end DL
set_option maxHeartbeats 1000000
namespace DL
open PySem L2
open PySem.W (Frag)
def XRl (K : Frag) (H : Hp) (cls : Value) (dd : Option Addr) (d : D) : Prop := ∃ n ns ds vs, d = .exc n ns ds ∧ cls = .ref (He.ga K n) ∧ ExF H dd ns vs ∧ ns.length = vs.length ∧ RlA K H vs ds
theorem XRl.mono {K : Frag} {A B : Hp} (x : Sub A B) {cls : Value} {dd : Option Addr} {d : D} (h : XRl K A cls dd d) : XRl K B cls dd d := by
  obtain ⟨n, ns, ds, vs, e, c, f, l, r⟩ := h
  exact ⟨n, ns, ds, vs, e, c, f.mono x, l, r.mono x⟩
abbrev EX := D → S → Prop
def WL (c : C) (Ex : EX) : WX := fun cls dd σ H => ∃ s x, Rep c s σ H ∧ XRl c.K (c.hid s.X H) cls dd x ∧ Ex x s
theorem WL.imp {c : C} {Ex Ex' : EX} (h : ∀ d s, Ex d s → Ex' d s) : ∀ cls dd σ H, WL c Ex cls dd σ H → WL c Ex' cls dd σ H := fun _ _ _ _ ⟨s, x, r, e, q⟩ => ⟨s, x, r, e, h _ _ q⟩
abbrev DSpX := List D → Nat → (D → Nat → Prop) → (D → Nat → Prop) → Prop
def spDX (K : Frag) (hm : Bool) (sp : DSpX) : Sp := fun vs H Q E => ∃ (M : Option Mc) (X0 : List Addr) (k : Nat) (ds : List D) (ws : List V) (R Ex : D → Nat → Prop),
  (match hm with | true => ∃ m, M = some m ∧ vs = .ref m.pm :: ws | false => M = none ∧ vs = ws) ∧ Ahd K M X0 H k ws ds ∧ sp ds k R Ex ∧
  (∀ d k', R d k' → ∀ v H', Aft K M X0 H H' k' → Rl K (wo H' (Ml M ++ X0)) v d → Q v H') ∧
  ∀ d k', Ex d k' → ∀ cls dd H', Aft K M X0 H H' k' → XRl K (wo H' (Ml M ++ X0)) cls dd d → E cls dd H'
structure CalX (P : Program) (w : World) (K : Frag) (mg : PySem.Str → Option Value) (base : Heap) (k : Nat) (x : PySem.Str) (sp : DSpX) : Prop where
  ex : ∃ f fd ps, FnOk P w K mg base (L2.CX P w) k f fd ps (spDX K false sp) ∧ mg x = some (.ref f) ∧ PySem.W.keepIn K (.ref f) = true ∧ Binds K fd ps []
abbrev dCallX (sp : DSpX) (Ex : EX) (t : DA) : DE := fun s Q => t s fun ds k => sp ds 0 (fun d _ => Q d k) (fun d _ => Ex d (s.at k))
section
variable {X : Cx} {c : C} {k j : Nat} {x : PySem.Str} {sp : DSpX} {p pos : Pos} {Ex : EX}
theorem pd_callX (hK : c.K = X.K) (tk : Takes X (WL c Ex)) (F : CalX X.prog X.w X.K X.mg X.base k x sp) (hr : Room j X.A) (hk : k ≤ j) {e : Expr} {es : List Expr} {t : DA} (ha : PA X (e :: es) (LA c t)) (hg : Gl X x := by rfl) (hdb : (x == ("__debug__" : PySem.Str)) = false := by decide) (he : starEach (e :: es) X.env = (false, eval e X.env) :: starEach es X.env := by rfl) (hpl : (backTo pos (starEach es X.env)).any (·.1) = false := by rfl) :
    PE X (.Call (.Name x p) (e :: es) [] pos) (LE c (dCallX sp Ex t)) := by
  obtain ⟨f, fd, ps, G, hm, kp, b⟩ := F.ex
  refine (pe_callS G (hr.mono hk) hg hm kp b (fun σ => passAt tk σ) ha hdb he hpl).weak fun σ H Q ⟨s, R, rp, q, fn⟩ => ⟨s, _, rp, q, fun ds k1 h1 vs H1 r1 a1 e1 => ?_⟩
  refine ⟨none, Ml c.M ++ s.X, 0, ds, vs, _, _, ⟨rfl, rfl⟩, ⟨fun a _ => by simp [Ml], r1.allHid, trivial, hK ▸ e1, r1.allTb⟩, h1, fun d k' hR v H' af er => ?_, fun d k' hE cls dd H' af er => ?_⟩
  · have z := Rep.after (s := s.at k1) r1 ⟨af.sub, af.old, af.m, af.tb⟩
    exact fn d k1 hR v H' z.1 (a1.trans z.2) (hK ▸ er)
  · have z := Rep.after (s := s.at k1) r1 ⟨af.sub, af.old, af.m, af.tb⟩
    exact ⟨s.at k1, d, z.1, hK ▸ er, hE⟩
end
abbrev dRaise (x f : PySem.Str) (Ex : EX) (t : DE) : DS := fun _ s => t s fun d k => Ex (.exc x [f] [d]) (s.at k)
theorem psd_raise {X : Cx} {c : C} {k : Nat} {x f : PySem.Str} {fI : Addr} {Ex : EX} {a : Expr} {t : DE} {p pos pos2 : Pos} (hK : c.K = X.K) (hc : X.calm = true) (tk : Takes X (WL c Ex)) (T : XE1.Txt X.K X.mg x f (He.ga X.K x) fI) (hr : Room k X.A) (ha : PE X a (LE c t)) (hg : Gl X x := by rfl) (hdb : (x == ("__debug__" : PySem.Str)) = false := by decide)
    (he : starEach (a :: []) X.env = (false, eval a X.env) :: starEach [] X.env := by rfl) (hpl : (backTo pos (starEach [] X.env)).any (·.1) = false := by rfl) :
    PS X (.Raise (some (.Call (.Name x p) [a] [] pos)) none pos2) (LS c (dRaise x f Ex t)) :=
  (ps_raise hc tk (pmk1 T hr (pad_cons ha pad_nil he) hg hdb he hpl)).weak fun D σ H ⟨s, DD, rp, q, fe⟩ => ⟨s, fun ds k => (match ds with | [d] => Ex (.exc x [f] [d]) (s.at k) | _ => False), rp, q, fun ds k1 h1 vs H1 r1 a1 e1 => by
    cases e1 with
    | nil => exact h1.elim
    | cons e1 e2 =>
      cases e2 with
      | cons _ _ => exact h1.elim
      | nil => exact ⟨_, rfl, fun d hd => ⟨s.at k1, _, (r1.new hd).1, ⟨x, [f], _, [_], rfl, by rw [hK], .inr ⟨d, rfl, r1.at_new hd⟩, rfl, .cons (e1.mono (r1.new hd).2.sub) .nil⟩, h1⟩⟩⟩
section
variable {P : Program} {w : World} {K : Frag} {mg : PySem.Str → Option Value} {base : Heap}
theorem okDX {x qual : PySem.Str} {st : Stmt} {f : Addr} {fd : FuncData} {N ps : List PySem.Str} {k : Nat} {hm : Bool} {sp : DSpX} (F : Fun K x qual st f fd) (Sc : FnScope N ps (defScope st)) (ow : List Nat)
    (len : ∀ ds k R E, sp ds k R E → ds.length + (match hm with | true => 1 | false => 0) = ps.length)
    (body : ∃ t : EX → DS, (∀ (cdv : Value) (A : Around) (outer : List Env) (s : Shared) (H : Hp) (E : XK) (M : Option Mc) (X0 : List Addr) (Ex : EX), Room k (A.deeper (PyProof.Rows.envOfC qual (defScope st) s.heap.objs.size f cdv)) →
        Takes (cxOf (L2.CX P w) P w K mg base N qual (defScope st) f cdv A outer s H E) (WL ⟨K, M, X0, H, ow⟩ Ex) →
        PSs (cxOf (L2.CX P w) P w K mg base N qual (defScope st) f cdv A outer s H E) (defBody st) (LS ⟨K, M, X0, H, ow⟩ (t Ex))) ∧
      ∀ X ds k R E, sp ds k R E → t (fun d s => E d s.k) { nx := fun s => R .non s.k, rt := R } ⟨X, init hm N.length ds, k⟩) :
    FnOk P w K mg base (L2.CX P w) (k + 1) f fd ps (spDX K hm sp) := by
  obtain ⟨t, hb, hr⟩ := body
  have lens : ∀ vs H Q E, spDX K hm sp vs H Q E → vs.length = ps.length := fun vs H Q E ⟨M, X0, k, ds, ws, R, Ex, h1, a, h2, h3, _⟩ => by
    have q := len ds k R Ex h2
    have l := a.args.len
    cases hm with
    | false =>
      obtain ⟨_, rfl⟩ := h1
      rw [l]
      exact q
    | true =>
      obtain ⟨m, _, rfl⟩ := h1
      rw [List.length_cons, l]
      exact q
  refine F.okX Sc lens fun cdv A outer s H vs Q E room h => ?_
  have hl := lens _ _ _ _ h
  obtain ⟨M, X0, k', ds, ws, R, Ex, h1, a, h2, h3, h4⟩ := h
  have hpl : ps.length ≤ N.length := by have := congrArg List.length Sc.pre; rw [List.length_take] at this; omega
  have aft : ∀ {H' k}, Fin ⟨K, M, X0, H, ow⟩ H' k → Aft K M X0 H H' k := fun fi => ⟨fi.sub, fun b hb => fi.old b hb (a.xm b hb) (a.xs b hb), fi.m, fi.tb⟩
  refine ⟨_, hb cdv A outer s H E M X0 (fun d s => Ex d s.k) room ((takes_of rfl rfl rfl rfl).imp fun cls dd σ H' ⟨s', d, rp, e, q⟩ => h4 d s'.k q cls dd H' (aft rp.fin) (e.mono rp.sub0)), ⟨X0, init hm N.length ds, k'⟩, _, init_rep (c := ⟨K, M, X0, H, ow⟩) rfl h1 a (by omega), hr X0 ds k' R Ex h2, ?_⟩
  have fin : ∀ d k v H', Fin ⟨K, M, X0, H, ow⟩ H' k → Rl K (wo H' (Ml M ++ X0)) v d → R d k → Q v H' := fun d k v H' fi e r => h3 d k r v H' (aft fi) e
  exact ⟨fun s' σ' H' r _ q => fin .non s'.k .non H' r.fin .non q, fun _ _ _ _ _ q => q, fun _ _ _ _ _ q => q, fun d k v H' fi e r => fin d k v H' fi e r⟩
end
end DL
set_option maxHeartbeats 1000000
namespace DL
open PySem PySem.Spec PyProof.Rows L2
theorem fly_keep {base h h2 : Heap} {l : List Env} {e : Addr} {Z : Obj → Prop} (f : HandSPX.FlyingZ base l e Z h) (k : ∀ b o, h.get? b = some o → h2.get? b = some o) : HandSPX.FlyingZ base l e Z h2 := by
  obtain ⟨f1, f2, f3, oe, vs, T, oT, ts, g1, g2, g3, g4, g5, g6, g7, g8, g9⟩ := f
  exact ⟨fun b o q => k b o (f1 b o q), f2, f3.of_keeps fun b o q _ => ⟨o, k b o q, rfl⟩, oe, vs, T, oT, ts, k _ _ g1, g2, g3, g4, g5, g6, k _ _ g7, g8, g9⟩
section
variable {X : Cx} {pins : List (Addr × Obj)} {σ : L2.St} {H : Hp} {s : Shared}
theorem gone_suite {a : Addr} {oe : Obj} {pn' : List (Addr × Obj)} (I : Inv (X.suite a ((a, oe) :: (X.pn ++ pins))) pn' σ H s) (ok : X.Ok) : Inv X ((a, oe) :: pins) σ H s :=
  ⟨ok, I.os, I.bare, I.base, I.loc, I.cell, I.free, I.freeC, fun p hp => I.pin p (List.mem_append_left _ (by
    rcases List.mem_append.mp hp with h | h
    · exact List.mem_cons_of_mem _ (List.mem_append_left _ h)
    · rcases List.mem_cons.mp h with h | h
      · rw [h]; exact List.mem_cons_self
      · exact List.mem_cons_of_mem _ (List.mem_append_right _ h))), I.hok, I.len⟩
theorem track {a : Addr} {oe : Obj} {cls : Value} {d : Option Addr} (I : Inv X ((a, oe) :: pins) σ H s) (na : X.s_0.heap.get? a = none) (np : ∀ p ∈ X.pn ++ pins, p.1 ≠ a) (hz : Zc cls d oe) (hd : ∃ vs, oe.data = .fields vs) : Inv X pins σ (upd H a (xob a cls d)) s := by
  obtain ⟨g1, g2, g3, g4, g5⟩ := I.pin (a, oe) (List.mem_append_right _ List.mem_cons_self)
  obtain ⟨vs, hv⟩ := hd
  have ne : ∀ {b : Addr} {o : HO}, H b = some o → b ≠ a := fun {b o} e => ne_of_none e g2
  have st : ∀ {b : Addr} {o : Obj}, X.s_0.heap.get? b = some o → b ≠ a := fun {b o} e z => by rw [z, na] at e; cases e
  refine ⟨I.ok, I.os, I.bare, ⟨I.base.keep, I.base.slot, fun b o e n hx => by rw [upd_ne (st e)]; exact I.base.free b o e n hx, I.base.there, fun b xs e => ?_, fun b o u e => ?_, fun b ps e => ?_⟩, I.loc, I.cell, by rw [upd_ne (Ne.symm g3)]; exact I.free, fun y c e => ?_, fun p hp => ?_, fun b u e => ?_, I.len⟩
  · have q := I.base.tups b xs e
    rw [upd_ne (ne q)]; exact q
  · have q := I.base.frzs b o u e
    rw [upd_ne (ne q)]; exact q
  · obtain ⟨more, q⟩ := I.base.tbls b ps e
    exact ⟨more, by rw [upd_ne (ne q)]; exact q⟩
  · obtain ⟨v, oc, h1, h2⟩ := I.cell y c e
    rw [upd_ne (fun z => by
      rw [z, g1] at h1
      cases h1
      rw [hv] at h2; cases h2)]
    exact I.freeC y c e
  · obtain ⟨e1, e2, e3, e4, e5⟩ := I.pin p (by
      rcases List.mem_append.mp hp with h | h
      · exact List.mem_append_left _ h
      · exact List.mem_append_right _ (List.mem_cons_of_mem _ h))
    exact ⟨e1, by rw [upd_ne (np p hp)]; exact e2, e3, e4, e5⟩
  · by_cases hb : b = a
    · subst hb
      rw [upd_same] at e
      cases e
      exact ⟨⟨oe, vs, g1, hz, hv⟩, ⟨oe, g1⟩, fun h1 h2 ⟨o1, v1, y1, y2, y3⟩ k => ⟨o1, v1, k _ y1, y2, y3⟩⟩
    · rw [upd_ne hb] at e
      exact (I.hok b u e).stay (fun c w hc q => q) (fun c hc => by rw [upd_ne (ne hc)]; exact hc) fun c xs hc => by rw [upd_ne (ne hc)]; exact hc
end
def wKeep (K : PySem.W.Frag) (c1 c2 : Value) (i j : Nat) (Wout : WX) (D : Ends) : WX := fun cls d σ H =>
  ∃ b, PySem.W.exmAny K cls [c1, c2] = some b ∧ (b = true → ∀ a, H a = none → D.nx (((σ.set i (some (.ref a))).set j (some (.ref a))).set i none) (upd H a (xob a cls d))) ∧ (b = false → Wout cls d σ H)
section
variable {X : Cx} {x1 x2 n y : PySem.Str} {c1 c2 : Value} {i j kk : Nat} {body : List Stmt} {p1 p2 pt py pn pa pos pos' : Pos} {tb : WX → TS} {Wout : WX}
theorem ps_try_keep (hs : X.stack = X.env :: X.outer) (hf : X.env.frame = some X.env.locals) (hN : X.N.Nodup) (hi : X.N[i]? = some n) (hj : X.N[j]? = some y) (hln : X.env.kindOf n = some .local) (hly : X.env.kindOf y = some .local) (hne : i ≠ j) (hc1 : Names X x1 c1) (hc2 : Names X x2 c2) (hex : X.ex = []) (tk : Takes X Wout)
    (hb : ∀ (W : WX) (pn : List (Addr × Obj)) (xe : Value → Shared → Prop), Takes (X.tr pn xe) W → PassesOwn (model X.prog X.w) X.A X.env xe → PSs (X.tr pn xe) body (tb W))
    (hsu : ∀ (a : Addr) (oe : Obj) (pn' : List (Addr × Obj)), PSs (X.suite a ((a, oe) :: pn')) [.Assign [.Name y py] (.Name n pn) pa] (fun D σ H => σ[i]? = some (some (.ref a)) ∧ D.nx (σ.set j (some (.ref a))) H)) :
    PS X (.Try body [.ExceptHandler (some (.Tuple [.Name x1 p1, .Name x2 p2] kk pt)) (some n) [.Assign [.Name y py] (.Name n pn) pa] pos'] [] [] pos) (fun D σ H => tb (wKeep X.K c1 c2 i j Wout D) D σ H) := by
  refine ⟨fun pins s σ H D I h => ?_⟩
  have ok := I.ok
  have hfr : X.A.frames = some (X.env :: X.outer) := by rw [ok.frames, hs]
  refine wpAny_Try_except (wpAny_mono ((hb (wKeep X.K c1 c2 i j Wout D) (X.pn ++ pins) (fun e s1 => wpAny (model X.prog X.w) X.A (noteFrame e X.env) (fun _ s2 => wpAny (model X.prog X.w) X.A (setFlight e none) (fun _ s3 =>
    wpAny (model X.prog X.w) X.A (handleBy e X.env [.ExceptHandler (some (.Tuple [.Name x1 p1, .Name x2 p2] kk pt)) (some n) [.Assign [.Name y py] (.Name n pn) pa] pos']) (SP X pins D) X.xe s3) X.xe s2) X.xe s1) (fun u s2 air => ?_) PassesOwn.looking).run [] s σ H D (I.toTry _) h) (fun fl s2 sp => ?_) (fun _ _ z => z))
  · obtain ⟨a, B, sI, pins2, τ, G, cls, d, rfl, J0, nb, up, sky, na, os, ag, b, hb1, yes, no⟩ := air
    have J : Inv X pins τ G sI := J0.ofTry ok
    have sky2 : Sky B (X.env :: X.outer) a (Zc cls d) X.env.locals s2.heap := by rw [← hs]; exact sky
    show wpAny (model X.prog X.w) X.A (noteFrame (.ref a) X.env) _ _ _
    refine Sky.land Zc.steady hfr hf sky2 fun h3 fl3 up3 => ?_
    have newB : B.get? a = none := fl3.2.1
    have on : ∀ {h4 : Heap} (f4 : HandSPX.FlyingZ B (X.env :: X.outer) a (Zc cls d) h4), a ≠ X.env.locals ∧ a ∉ X.fs := fun {h4} f4 => by
      obtain ⟨o4, v4, e4, _, d4⟩ := f4.there
      have nfr : a ∉ frs (X.env :: X.outer) := fun hm => by
        obtain ⟨_, o', e', hnf⟩ := f4.2.2.1.mem hm
        rw [e4] at e'; cases e'
        exact hnf _ d4
      refine ⟨fun z => nfr (List.mem_filterMap.mpr ⟨X.env, List.mem_cons_self, by rw [hf, z]⟩), fun hm => ?_⟩
      obtain ⟨e, he, q⟩ := List.mem_filterMap.mp hm
      exact nfr (List.mem_filterMap.mpr ⟨e, List.mem_cons_of_mem _ he, q⟩)
    obtain ⟨nL, nF⟩ := on fl3
    have land : ∀ {h4 : Heap}, HandSPX.FlyingZ B (X.env :: X.outer) a (Zc cls d) h4 → s2.heap.UpToSlots h4 → Inv X pins τ G { s2 with heap := h4 } := fun f4 u4 => J.landed nb f4.1 (up.trans u4) os ag
    obtain ⟨o3, v3, e3, z3, d3⟩ := fl3.there
    have S3 := (land fl3 up3).suite e3 d3 na nL nF
    refine wpAny_handleBy_cons (codeAny_handlers_test ?_) (by intro q; cases q)
    have name : ∀ {x : PySem.Str} {c : Value} {p : Pos} {Q : Value → Shared → Prop} {E : Value → Shared → Prop}, Names X x c → Q c { s2 with heap := h3 } → wpAny (model X.prog X.w) (X.A.mark (some (.ref a))) (eval (.Name x p) X.env) Q E { s2 with heap := h3 } := fun {x c p Q E} hc q => by
      obtain ⟨hg, hdbg, hm | ⟨hm, hv, hnn⟩⟩ := hc
      · exact ld_glob (X := X.suite a ((a, o3) :: (X.pn ++ pins))) S3 hg hm q hdbg
      · exact ld_blt (X := X.suite a ((a, o3) :: (X.pn ++ pins))) S3 hg hm hv q hnn hdbg
    refine wpAny_Tuple (wpAny_items_cons (name hc1 (wpAny_items_cons (name hc2 (wpAny_items_nil ⟨by size_fits, ?_⟩)))))
    generalize hT : h3.push { cls := .type "tuple", data := .seq [c1, c2].toArray } = h4
    have k34 : ∀ b o, h3.get? b = some o → h4.get? b = some o := fun b o q => by rw [← hT]; exact Heap.get?_push_of_some _ q
    have at4 : h4.get? h3.objs.size = some { cls := .type "tuple", data := .seq [c1, c2].toArray } := by rw [← hT]; exact Heap.get?_push_size h3 rfl
    have fl4 := fly_keep fl3 k34
    have up4 : s2.heap.UpToSlots h4 := up3.trans (Heap.UpToSlots.of_keeps k34)
    have J4 := land fl4 up4
    have LT : PySem.W.Looks (model X.prog X.w) h4 (typeOf (.ref a)) cls := fun A Q E s k q => wpAny_typeOf_ref (k _ _ (k34 _ _ e3)) (by rw [z3.1]; exact q)
    refine (PySem.W.exm_tup2 (M := model X.prog X.w) J4.kIn LT at4 hb1).here ?_
    cases b with
    | true =>
      refine codeAny_handlers_suite_as (HandSPX.lands_againZ fl4 fun h5 fl5 up5 => ?_)
      have J5 := land fl5 (up4.trans up5)
      obtain ⟨o5, v5, e5, z5, d5⟩ := fl5.there
      have S5 := J5.suite e5 d5 na nL nF
      refine store_ok (X := X.suite a ((a, o5) :: (X.pn ++ pins))) (v := .ref a) S5 hN hi (.inl hln) rfl (fun s6 S6 => ?_) (.inr hln)
      have li : i < τ.length := by rw [J5.len]; exact (List.getElem?_eq_some_iff.mp hi).1
      refine wpAny_mono ((hsu a o5 (X.pn ++ pins)).run [] s6 _ G { nx := fun σ6 H6 => σ6 = (τ.set i (some (.ref a))).set j (some (.ref a)) ∧ H6 = G, rt := fun _ _ => False, bk := fun _ _ => False, ct := fun _ _ => False } S6 ⟨List.getElem?_set_self li, rfl, rfl⟩) (fun f s7 sp => ?_) (fun _ _ z => False.elim z)
      cases f with
      | next =>
        obtain ⟨σ7, H7, S7, rfl, rfl⟩ := sp
        have S7' := gone_suite S7 ok
        refine gone_ok S7' hN hi hln fun s8 J8 => ⟨_, _, track J8 ?_ (fun p hp => ?_) z5 ⟨_, d5⟩, yes rfl a na⟩
        · cases q : X.s_0.heap.get? a with
          | none => rfl
          | some o =>
            obtain ⟨o', q1⟩ := J.base.there a o q (by rw [hex]; simp)
            have q2 := nb a o' q1 (fun hm => ?_)
            · rw [newB] at q2; cases q2
            · rw [hs] at hm
              rcases List.mem_filterMap.mp hm with ⟨e, he, q3⟩
              rcases List.mem_cons.mp he with rfl | he
              · exact nL (by rw [hf] at q3; cases q3; rfl)
              · exact nF (List.mem_filterMap.mpr ⟨e, he, q3⟩)
        · intro z
          obtain ⟨q1, _, q3, q4, _⟩ := J.pin p hp
          have q2 := nb p.1 p.2 q1 (fun hm => by
            rw [hs] at hm
            rcases List.mem_filterMap.mp hm with ⟨e, he, q5⟩
            rcases List.mem_cons.mp he with rfl | he
            · exact q3 (Option.some.inj (hf.symm.trans q5)).symm
            · exact q4 (List.mem_filterMap.mpr ⟨e, he, q5⟩))
          rw [z, newB] at q2; cases q2
      | brk => obtain ⟨_, _, _, q⟩ := sp; exact q.elim
      | cont => obtain ⟨_, _, _, q⟩ := sp; exact q.elim
      | ret u => obtain ⟨_, _, _, _, _, q⟩ := sp; exact q.elim
    | false =>
      show wpAny _ X.A (handleBy (.ref a) X.env []) _ _ _
      refine wpAny_handleBy_nil ?_
      obtain ⟨k1, k2, k3, oe, vs, T, oT, ts2, he, hz, hd, h1, hr⟩ := id fl4
      unfold PySem.passOn
      refine wpAny_bind (wpAny_field he hd h1 ?_)
      rw [if_neg (show ¬ ((Value.ref T == Value.none) = true) from by simp)]
      have fin : wpAny (model X.prog X.w) X.A (setFlight (.ref a) X.env.frame) (fun _ s4 => wpAny (model X.prog X.w) X.A (throw (.ref a) : Sem Flow) (SP X pins D) X.xe s4) X.xe { s2 with heap := h4 } := by
        rw [hf]
        exact HandSPX.setFlight_upZ fl4 fun h6 hh6 up6 => wpAny_throw (tk _ _ ⟨a, B, sI, pins, τ, G, cls, d, rfl, J, nb, (up.trans up4).trans up6, .inr (.inr (by rw [hs]; exact hh6)), na, os, ag, no rfl⟩)
      first
        | exact wpAny_bind (wpAny_pure (wpAny_bind fin))
        | exact wpAny_bind fin
  · cases fl with
    | next =>
      obtain ⟨τ, G, J, q⟩ := sp
      exact wpAny_execs_nil ⟨τ, G, J.ofTry ok, q⟩
    | brk =>
      obtain ⟨τ, G, J, q⟩ := sp
      exact ⟨τ, G, J.ofTry ok, q⟩
    | cont =>
      obtain ⟨τ, G, J, q⟩ := sp
      exact ⟨τ, G, J.ofTry ok, q⟩
    | ret u =>
      obtain ⟨v, τ, G, J, r, q⟩ := sp
      exact ⟨v, τ, G, J.ofTry ok, r, q⟩
end
end DL
set_option maxHeartbeats 1000000
namespace DL
open PySem L2
open PySem.W (Frag)
@[reducible] def Sl.noOwn : Sl → Bool
  | .own _ _ => false
  | _ => true
abbrev C.from (c : C) (s : S) (H : Hp) : C := ⟨c.K, c.M, s.X, H, c.ow⟩
section
variable {c : C} {s s2 : S} {σ τ : L2.St} {H G : Hp}
theorem Rep.from (r : Rep c s σ H) (no : s.sl.all Sl.noOwn = true) : Rep (c.from s H) s σ H :=
  ⟨Sub.refl _, fun _ _ _ _ => rfl, fun _ h => h, r.xm, r.xs, r.m, fun i x e => by
    have q := r.slot i x e
    cases x with
    | own p ds =>
      have := List.all_eq_true.mp no _ (List.mem_of_getElem? e)
      cases this
    | no => exact q
    | dat d => exact q
    | mst => exact q
    | scr ns => exact q, r.apart, r.len, .refl, r.xt⟩
theorem Rep.back (r : Rep c s σ H) (q : Rep (c.from s H) s2 τ G) : Rep c s2 τ G :=
  ⟨r.sub.trans q.sub, fun a h1 h2 h3 => (q.old a (r.x0 a h1) h2 (r.xs a (r.x0 a h1))).trans (r.old a h1 h2 h3), fun a h => q.x0 a (r.x0 a h), q.xm, q.xs, q.m, fun i x e => by
    have y := q.slot i x e
    cases x with
    | own p ds =>
      obtain ⟨e', h1, h2, h3, vs, h4, h5⟩ := y
      exact ⟨e', h1, fun z => h2 (r.x0 p z), (r.nofree h3).2.2.2, vs, h4, h5⟩
    | no => exact y
    | dat d => exact y
    | mst => exact y
    | scr ns => exact y, q.apart, q.len, r.tb.trans q.tb, q.xt⟩
theorem Fits.from {DD : DEnds} {D : Ends} (r : Rep c s σ H) (f : Fits c s.X H DD D) : Fits (c.from s H) s.X H DD D :=
  ⟨fun s' σ' H' q a h => f.nx s' σ' H' (r.back q) a h, fun s' σ' H' q a h => f.bk s' σ' H' (r.back q) a h, fun s' σ' H' q a h => f.ct s' σ' H' (r.back q) a h, fun d k v H' fi e h =>
    have up : Sub (c.hid s.X H') (c.hid c.X0 H') := wo_more fun a h => (List.mem_append.mp h).elim (List.mem_append_left _) fun h => List.mem_append_right _ (r.x0 a h)
    f.rt d k v H' ⟨r.sub.trans (fi.sub.trans up), fun a h1 h2 h3 => (fi.old a (r.x0 a h1) h2 (r.xs a (r.x0 a h1))).trans (r.old a h1 h2 h3), fi.m, r.tb.trans fi.tb⟩ (e.mono up) h⟩
end
end DL
set_option maxHeartbeats 1000000
namespace DL
open PySem PySem.Spec PyProof.Rows L2 LamX
theorem Takes.len {X : Cx} {W : WX} (t : Takes X W) : Takes X (fun cls d σ H => σ.length = X.N.length → W cls d σ H) := fun u s' ⟨a, B, sI, pins, σ, H, cls, d, e, I, nb, up, sky, na, os, ag, w⟩ =>
  t u s' ⟨a, B, sI, pins, σ, H, cls, d, e, I, nb, up, sky, na, os, ag, w I.len⟩
theorem PE.ex {X : Cx} {e : Expr} {t : TE} (h : PE X e t) : PE X e (fun σ H Q => ∃ R : VK, t σ H R ∧ ∀ v H', R v H' → Q v H') := ⟨fun p s σ H Q I ⟨R, q, f⟩ => thn (h.run p s σ H R I q) fun u s1 ⟨x, H1, I1, r, q1⟩ => ⟨x, H1, I1, r, f _ _ q1⟩⟩
abbrev toldBody (a1 a2 a3 a4 a5 a6 a7 b1 b2 b3 b4 b5 b6 b7 b8 b9 b10 b11 b12 c1 c2 c3 c4 c5 c6 c7 c8 c9 c10 : Pos) : List Stmt := [
  .Assign [.Tuple [.Name "found" a1, .Name "error" a2] 0 a3] (.Tuple [.Constant .none 0 a4, .Constant .none 0 a5] 0 a6) a7,
  .Try [.Assign [.Name "found" b1] (.Call (.Name "call" b2) [] [] b3) b4] [.ExceptHandler (some (.Tuple [.Name "BondError" b5, .Name "TooGreat" b6] 0 b7)) (some "e") [.Assign [.Name "error" b8] (.Name "e" b9) b10] b11] [] [] b12,
  .Return (some (.IfExp (.Compare (.Name "error" c1) [.Is] [.Constant .none 0 c2] c3) (.List [.Name "found" c4] c5) (.Call (.Name "_law_class" c6) [.Name "error" c7] [] c8) c9)) c10]
abbrev toldScope : Scope := { kind := .function, names := [("call", .local), ("found", .local), ("error", .local), ("e", .local), ("BondError", .globalImplicit), ("TooGreat", .globalImplicit), ("_law_class", .globalImplicit)], isGenerator := false, isCoroutine := false }
def TTk (K : PySem.W.Frag) (C1 C2 : Addr) (spc : Sp) : (XK → Hp → VK → Prop) → Hp → VK → Prop := fun tl H Q =>
  ∀ p, H p = none → tl (fun cls d H2 => PySem.W.exmAny K cls [.ref C1, .ref C2] = some true ∧ ∀ a, H2 a = none → spc [.ref a] (upd H2 a (xob a cls d)) Q E0) (upd H p (.tup [.non, .non])) fun v H2 => ∀ p, H2 p = none → Q (.ref p) (upd H2 p (.lst [v]))
section
variable {X : Cx}
theorem gives_told {k : Nat} {g gc C1 C2 : Addr} {cdg : Value} {q : PySem.Str} {fdc : FuncData} {spc : Sp} {a1 a2 a3 a4 a5 a6 a7 b1 b2 b3 b4 b5 b6 b7 b8 b9 b10 b11 b12 c1 c2 c3 c4 c5 c6 c7 c8 c9 c10 : Pos}
    (m1 : X.mg "BondError" = some (.ref C1)) (m2 : X.mg "TooGreat" = some (.ref C2)) (mc : X.mg "_law_class" = some (.ref gc)) (kc : PySem.W.keepIn X.K (.ref gc) = true) (Gc : FnOk X.prog X.w X.K X.mg X.base CX0 k gc fdc ["error"] spc) (bc : Binds X.K fdc ["error"] [])
    (hr : ∀ s : Shared, Room k (X.A.deeper (envOfC "_law_told" toldScope s.heap.objs.size g cdg)))
    (hsw : ∀ (s : Shared) (H : Hp), swappedStores [Expr.Tuple [Expr.Name "found" a1, Expr.Name "error" a2] 0 a3] (Expr.Tuple [Expr.Constant Const.none 0 a4, Expr.Constant Const.none 0 a5] 0 a6) (cxOf C8.CX0 X.prog X.w X.K X.mg X.base ["call", "found", "error", "e"] "_law_told" toldScope g cdg X.A X.stack s H C8.E0).nox.env = pure none) :
    GivesTo X ["call", "found", "error", "e"] "_law_told" toldScope g cdg (toldBody a1 a2 a3 a4 a5 a6 a7 b1 b2 b3 b4 b5 b6 b7 b8 b9 b10 b11 b12 c1 c2 c3 c4 c5 c6 c7 c8 c9 c10) "call" q (TTk X.K C1 C2 spc) := by
  intro f c' s H Q tl act hc h
  have nd : (["call", "found", "error", "e"] : List PySem.Str).Nodup := by decide +kernel
  refine ⟨_, pss_cons (ps_asg (X := (cxOf C8.CX0 X.prog X.w X.K X.mg X.base ["call", "found", "error", "e"] "_law_told" toldScope g cdg X.A X.stack s H C8.E0).nox) (pe_tup (pa_cons pe_non (pa_cons pe_non pa_nil))) (pg_tup rfl (pgs_cons (pg_name (i := 1) nd rfl (.inl rfl)) (pgs_cons (pg_name (i := 2) nd rfl (.inl rfl)) pgs_nil))) (hw := hsw s H))
    (pss_cons (ps_try_keep (X := (cxOf C8.CX0 X.prog X.w X.K X.mg X.base ["call", "found", "error", "e"] "_law_told" toldScope g cdg X.A X.stack s H C8.E0).nox) (i := 3) (j := 2) (c1 := .ref C1) (c2 := .ref C2) (Wout := fun _ _ _ _ => False)
      (tb := fun W D σ H' => ∃ Ech : XK, (∀ cls d σ' H2, Ech cls d H2 → σ'.length = 4 → W cls d σ' H2) ∧ σ[0]? = some (some (.ref f)) ∧ H' c' = some (CodeO c' q) ∧ ∃ R : VK, tl Ech H' R ∧ ∀ v H2, R v H2 → D.nx (σ.set 1 (some v)) H2)
      rfl rfl nd rfl rfl rfl rfl (by decide) ⟨rfl, by decide, .inl m1⟩ ⟨rfl, by decide, .inl m2⟩ rfl L2.takes0 (fun W pn xe tk _ => ?hb) (fun a oe pn' => ?hsu))
    (pss_one (ps_ret (pe_ifExp (pt_cmpR op_isN (pv 2) pe_non (nomark _)) (pe_lst (pa_cons (pv 1) pa_nil)) (pe_call Gc (hr s) rfl mc kc bc .nil pass0 (pa_cons (pv 2) pa_nil)))))), ?fin⟩
  case hb => refine ⟨fun pins s' σ H' D I ⟨Ech, hW, h1, h2, R, h3, h4⟩ => ?_⟩
             exact (pss_one (ps_set (i := 1) nd rfl (.inl rfl) (PE.ex (act (fun cls d σ H => σ.length = 4 → W cls d σ H) pn xe Ech b2 b3 (Takes.len tk) hW)))).run pins s' σ H' D I ⟨R, ⟨h1, h2, h3⟩, h4⟩
  case hsu => refine PSs.weak (pss_one (ps_set (i := 2) nd rfl (.inl rfl) (pe_var (x := "e") (i := 3) rfl (.inl rfl)))) fun D σ H ⟨e, q⟩ => ⟨_, e, q⟩
  case fin =>
    refine ⟨by show 2 ≤ sizeLine; decide, fun p hp => ⟨p, [.non, .non], rfl, SqT.of upd_same, rfl, ?_⟩⟩
    refine ⟨.non, [.non], rfl, .non, [], rfl, rfl, ?_⟩
    have hcp : c' ≠ p := fun z => by rw [z, hp] at hc; cases hc
    refine ⟨fun cls d H2 => PySem.W.exmAny X.K cls [.ref C1, .ref C2] = some true ∧ ∀ a, H2 a = none → spc [.ref a] (upd H2 a (xob a cls d)) Q E0, fun cls d σ' H2 ⟨e1, e2⟩ hl => ⟨true, e1, fun _ a ha => ?_, fun z => nomatch z⟩, rfl, by rw [upd_ne hcp]; exact hc, _, h p hp, fun v H2 hv => ⟨_, rfl, rfl, _, rfl, iteT ⟨_, rfl, by show 1 ≤ sizeLine; decide, hv⟩⟩⟩
    obtain ⟨s0, s1, s2, s3, rfl⟩ : ∃ s0 s1 s2 s3, σ' = [s0, s1, s2, s3] := by
      match σ', hl with
      | [s0, s1, s2, s3], _ => exact ⟨_, _, _, _, rfl⟩
    refine ⟨_, rfl, rfl, _, rfl, ?_⟩
    rw [decide_eq_false (by intro z; cases z)]
    exact iteF ⟨_, rfl, e2 a ha⟩
end
end DL
set_option maxHeartbeats 1000000
namespace DL
open PySem PySem.Spec PyProof.Rows L2 LamX
@[reducible] def Sl.nOwn : Sl → Sl
  | .own _ _ => .no
  | x => x
abbrev S.nOwn (s : S) : S := ⟨s.X, s.sl.map Sl.nOwn, s.k⟩
abbrev dTold (ns : List PySem.Str) (spC : DSp) (t : EX → DE) : DE := fun s Q => t (fun x s' => (∃ n fs ds, x = .exc n fs ds ∧ n ∈ ns) ∧ spC [x] 0 fun d _ => Q d s'.k) s.nOwn fun d k => Q (.lst [d]) k
theorem Rep.fromN {c : C} {s : S} {σ : L2.St} {H : Hp} (r : Rep c s σ H) : Rep (c.from s H) s.nOwn σ H := by
  refine ⟨Sub.refl _, fun _ _ _ _ => rfl, fun _ h => h, r.xm, r.xs, r.m, fun i x e => ?_, fun i j p q ds es e => ?_, ?_, .refl, r.xt⟩
  · have e : (s.sl.map Sl.nOwn)[i]? = some x := e
    rw [List.getElem?_map] at e
    obtain ⟨y, hy, rfl⟩ := Option.map_eq_some_iff.mp e
    have q := r.slot i y hy
    cases y with
    | own p ds => trivial
    | no => exact q
    | dat d => exact q
    | mst => exact q
    | scr ns => exact q
  · have e : (s.sl.map Sl.nOwn)[i]? = some (.own p ds) := e
    rw [List.getElem?_map] at e
    obtain ⟨y, hy, z⟩ := Option.map_eq_some_iff.mp e
    cases y <;> cases z
  · have := r.len
    show (s.sl.map Sl.nOwn).length = _
    rw [List.length_map]; exact this
def NoTs (H : Hp) : Prop := ∀ a ps, H a ≠ some (.tbl ps)
theorem tbk_none {A B : Hp} (h : NoTs A) : TbK A B := by
  refine ⟨fun T t p hp => ?_, fun p ps e => absurd e (h p ps)⟩
  obtain ⟨ps, e, _⟩ := t p hp
  exact absurd e (h _ ps)
theorem Rep.extN {c : C} {s : S} {σ : L2.St} {H H1 : Hp} {m : Mc} (r : Rep c s σ H) (hM : c.M = some m) (h0 : NoTs c.H0) (ex : ExtN H H1) (tb : Tabs m.T H1) : Rep c s σ H1 ∧ AdvE c s.X H H1 := by
  have sub : Sub (c.hid s.X H) (c.hid s.X H1) := fun a o e => by
    obtain ⟨n, h, nt⟩ := wo_all e
    exact wo_of n (ex a o h nt) nt
  have same : ∀ a ∈ s.X, H1 a = H a := fun a ha => by
    cases e : H a with
    | none => exact absurd e (r.xs a ha)
    | some o => exact ex a o e fun ps z => r.xt a ha ps (by rw [e, z])
  refine ⟨r.step (k := s.k) sub (fun a ha _ => same a ha) ?_ (tbk_none h0), sub, same⟩
  have q := r.m
  rw [hM] at q ⊢
  obtain ⟨cs, gs, n, ok, le, _⟩ := q
  exact ⟨cs, gs, n, ⟨ex _ _ ok.hm (fun _ z => by cases z), ex _ _ ok.hc (fun _ z => by cases z), ex _ _ ok.hg (fun _ z => by cases z), ok.lc, ok.bc, ok.lg, ok.bg⟩, le, tb⟩
section
variable {X : Cx} {c : C} {m : Mc} {k : Nat} {g gc cc P C1 C2 : Addr} {st : Stmt} {fd fdc : FuncData} {spC : DSp} {ns : List PySem.Str} {t : EX → DE} {params : Arguments} {body : Expr} {scope : Scope} {p lpos pos : Pos}
  {a1 a2 a3 a4 a5 a6 a7 b1 b2 b3 b4 b5 b6 b7 b8 b9 b10 b11 b12 c1 c2 c3 c4 c5 c6 c7 c8 c9 c10 : Pos}
theorem pd_told (hK : c.K = X.K) (hM : c.M = some m) (h0 : NoTs c.H0) (F : Fun X.K "_law_told" "_law_told" st g fd) (bF : L2.Binds X.K fd ["call"] []) (hm : X.mg "_law_told" = some (.ref g))
    (m1 : X.mg "BondError" = some (.ref C1)) (m2 : X.mg "TooGreat" = some (.ref C2)) (mc : X.mg "_law_class" = some (.ref gc)) (kc : PySem.W.keepIn X.K (.ref gc) = true) (Gc : FnOk X.prog X.w X.K X.mg X.base CX0 k gc fdc ["error"] (spD X.K false spC)) (bc : L2.Binds X.K fdc ["error"] [])
    (hcat : ∀ n ∈ ns, PySem.W.exmAny X.K (.ref (He.ga X.K n)) [.ref C1, .ref C2] = some true)
    (TB : TabB X.base X.mg cc P) (hcode : X.env.code = .ref cc) (hmT : (P, X.env.qual ++ "<lambda>") ∈ m.T) (hu : ∀ p ∈ m.T, p.1 = P → p.2 = X.env.qual ++ "<lambda>") (hr : Room (k + 2) X.A)
    (hst1 : defBody st = toldBody a1 a2 a3 a4 a5 a6 a7 b1 b2 b3 b4 b5 b6 b7 b8 b9 b10 b11 b12 c1 c2 c3 c4 c5 c6 c7 c8 c9 c10) (hst2 : defScope st = toldScope)
    (hsw : ∀ (cdv : Value) (s : Shared) (H : Hp), swappedStores [Expr.Tuple [Expr.Name "found" a1, Expr.Name "error" a2] 0 a3] (Expr.Tuple [Expr.Constant Const.none 0 a4, Expr.Constant Const.none 0 a5] 0 a6) (cxOf C8.CX0 X.prog X.w X.K X.mg X.base ["call", "found", "error", "e"] "_law_told" toldScope g cdv X.A X.stack s H C8.E0).nox.env = pure none)
    (L : LamS X.env.scope scope)
    (hbody : ∀ (A : Around) (outer : List Env) (s : Shared) (H : Hp) (E : XK) (f c' : Addr) (c2 : C) (Ex : EX), Room k (A.deeper (lamEnv X scope s.heap.objs.size f c')) → c2.K = X.K → Takes (lamCx X A outer s H E scope f c') (WL c2 Ex) → PE (lamCx X A outer s H E scope f c') body (LE c2 (t Ex)))
    (hg : Gl X "_law_told" := by rfl) (hdef : defaultsOf params X.env = ([], []) := by rfl)
    (hbind : ∀ (q : PySem.Str) (cl : List (PySem.Str × Addr)) (pm cv ctv : Value), bindArgs (PySem.W.kla_fn "<lambda>" q params body scope cl pm cv ctv) ⟨[], []⟩ = pure [] := by intros; rfl) :
    PE X (.Call (.Name "_law_told" p) [.Lambda params body scope lpos] [] pos) (LE c (dTold ns spC t)) := by
  obtain ⟨oc, od, kV, doc, pm, an, cdv, ct, osl, rfl, lk, hcd⟩ := F.ex
  rw [hst1, hst2] at lk bF
  refine (pe_lamcall (T := m.T) (TT := TTk X.K C1 C2 (spD X.K false spC)) (Ng := ["call", "found", "error", "e"]) (t := fun E σ H Q => ∃ (c2 : C) (Ex : EX), c2.K = X.K ∧ (∀ cls dd σ' H', WL c2 Ex cls dd σ' H' → E cls dd H') ∧ LE c2 (t Ex) σ H Q)
    hg hm F.kp lk hcd bF ⟨rfl, rfl, rfl, by decide +kernel, rfl, by decide +kernel, by decide +kernel⟩ rfl (.inl rfl)
    (gives_told m1 m2 mc kc Gc bc (fun s => (hr.mono (by omega : k + 1 ≤ k + 2)).deeper _) (fun s H => hsw cdv s H)) TB hcode hmT hu hr L hdef hbind (fun A outer s H E f c' rm => ⟨fun pins s' σ H' Q I ⟨c2, Ex, e1, e2, q⟩ => ?hb⟩)).weak fun σ H Q ⟨s, R, rp, q, fn⟩ => ?_
  case hb => exact (hbody A outer s H E f c' c2 Ex rm e1 ((takes_of rfl rfl rfl rfl).imp fun cls dd σ' H' z => e2 cls dd σ' H' z)).run pins s' σ H' Q I q
  · refine ⟨?_, fun H1 ex tb => ?_⟩
    · have z := rp.m
      rw [hM] at z
      obtain ⟨_, _, _, _, _, tb⟩ := z
      exact tb
    · obtain ⟨r1, ad1⟩ := rp.extN hM h0 ex tb
      intro p hp
      have n2 := r1.new (o := .tup [.non, .non]) hp
      refine ⟨c.from s (upd H1 p (.tup [.non, .non])), _, hK, ?_, s.nOwn, _, n2.1.fromN, q, ?_⟩
      · rintro cls dd σ' H' ⟨s2, x, r2, ex2, ⟨n, fs, ds, rfl, hk⟩, hsp⟩
        obtain ⟨n', fs', ds', vs, e, rfl, fx, fl, fr⟩ := ex2
        cases e
        refine ⟨by show PySem.W.exmAny X.K (.ref (He.ga c.K n)) _ = _; rw [hK]; exact hcat _ hk, fun a ha => ?_⟩
        have up : Sub (c.hid s2.X H') (c.hid s.X H') := wo_more fun a h => (List.mem_append.mp h).elim (List.mem_append_left _) fun h => List.mem_append_right _ (r2.x0 a h)
        have sub : Sub (c.hid s.X (upd H1 p (.tup [.non, .non]))) (c.hid s.X H') := r2.sub.trans up
        have same : ∀ b ∈ s.X, H' b = (upd H1 p (.tup [.non, .non])) b := fun b hb => r2.old b hb (n2.1.xm b hb) (n2.1.xs b hb)
        have r3 : Rep c (s.at s2.k) σ H' := n2.1.step (k := s2.k) sub (fun b hb _ => same b hb) r2.m (tbk_none h0)
        have ad3 : AdvE c s.X (upd H1 p (.tup [.non, .non])) H' := ⟨sub, same⟩
        have n4 := r3.new (o := xob a (.ref (He.ga c.K n)) dd) ha
        have fx' : ExF (c.hid s.X H') dd fs vs := ExF.mono up fx
        have fr' : RlA c.K (c.hid s.X H') vs ds := RlA.mono up fr
        have ev : Rl c.K (c.hid s.X (upd H' a (xob a (.ref (He.ga c.K n)) dd))) (.ref a) (.exc n fs ds) := .exc (r3.at_new ha) (fx'.mono n4.2.sub) fl (fr'.mono n4.2.sub)
        refine ⟨none, Ml c.M ++ s.X, 0, [.exc n fs ds], [.ref a], _, ⟨rfl, rfl⟩, ⟨fun a _ => by simp [Ml], n4.1.allHid, trivial, hK ▸ RlA.cons ev .nil, n4.1.allTb⟩, hsp, fun d k' hR v H'' af er => ?_⟩
        have z := Rep.after (s := s.at s2.k) n4.1 ⟨af.sub, af.old, af.m, af.tb⟩
        exact fn d s2.k hR v H'' z.1 ((((ad1.trans n2.2).trans ad3).trans n4.2).trans z.2) (hK ▸ er)
      · intro d k1 hR v H3 r3 a3 e3 y hy
        have ad3 : AdvE c s.X (upd H1 p (.tup [.non, .non])) H3 := ⟨a3.sub, a3.own⟩
        have r4 : Rep c (s.at k1) σ H3 := n2.1.step (k := k1) ad3.sub (fun b hb _ => ad3.own b hb) r3.m (tbk_none h0)
        have n4 := r4.new (o := .lst [v]) hy
        exact fn (.lst [d]) k1 hR (.ref y) _ n4.1 (((ad1.trans n2.2).trans ad3).trans n4.2) (.lst (r4.at_new hy) (.cons (Rl.mono n4.2.sub e3) .nil))
end
end DL
set_option maxHeartbeats 1000000
namespace DL
open PySem PySem.Spec PyProof.Rows L2
open PySem.W (Frag)
structure ExK (K : Frag) (C : Addr) : Prop where
  xf : XfC K C
  cl : (PySem.W.clsIn K C).isSome = true
  ca : PySem.W.findIn K (.ref C) "__class__" = some (some (.builtin "object.__class__"))
  cg : PySem.W.specialIn K (.builtin "object.__class__") "__get__" = some (some (.builtin "getset_descriptor.__get__"))
  tk : PySem.W.takesIn K (.builtin "object.__class__") = some true
  ob : PySem.W.mroIn K C (.type "object") = some true
theorem exkB_ok {K : Frag} {C : Addr} (h : exkB K C = true) : ExK K C := by
  obtain ⟨h1, h⟩ := Bool.and_eq_true_iff.mp h
  obtain ⟨h2, h⟩ := Bool.and_eq_true_iff.mp h
  obtain ⟨h3, h⟩ := Bool.and_eq_true_iff.mp h
  obtain ⟨h4, h⟩ := Bool.and_eq_true_iff.mp h
  obtain ⟨h5, h6⟩ := Bool.and_eq_true_iff.mp h
  exact ⟨xfB_ok h1, h2, of_decide_eq_true h3, of_decide_eq_true h4, of_decide_eq_true h5, of_decide_eq_true h6⟩
section
variable {X : Cx} {pins : List (Addr × Obj)} {σ : L2.St} {H : Hp} {s : Shared}
theorem inst_exc {a C : Addr} {dd : Option Addr} {ns : List PySem.Str} {vs : List V} (I : Inv X pins σ H s) (h : H a = some (xob a (.ref C) dd)) (f : ExF H dd ns vs) :
    ∃ (ox : Obj) (od : Option Obj), PySem.W.InstAt s.heap a ox C od ∧ ∀ n v, (ns.zip vs).lookup n = some v → ∃ o u, od = some o ∧ PySem.W.lookIn n o = some (some u) ∧ RelV v u := by
  obtain ⟨⟨oe, ws, e1, ⟨e2, e3⟩, e4⟩, _, _⟩ := (show ObjOk X.prog X.w H s.heap a (xob a (.ref C) dd) from I.hok a _ h)
  have nc : PySem.W.notCls oe = true := by unfold PySem.W.notCls; rw [e4] <;> rfl
  rcases f with ⟨rfl, rfl⟩ | ⟨d, rfl, hd⟩
  · exact ⟨oe, none, ⟨e1, e2, nc, by rw [e3]; trivial⟩, fun n v z => by cases z⟩
  · obtain ⟨mA, hns, hr⟩ := (show ObjOk X.prog X.w H s.heap d (.xd (ns.zip vs)) from I.hok d _ hd)
    obtain ⟨od, ho, hl⟩ := lookIn_ns hns
    refine ⟨oe, some od, ⟨e1, e2, nc, by rw [e3]; exact ho⟩, fun n v z => ?_⟩
    obtain ⟨u, hu, ru⟩ := RelO.some_of (v := v) (o := mA n) (by rw [← z]; exact hr n)
    exact ⟨od, u, rfl, by rw [hl, hu], ru⟩
theorem call_isiE : CallR X (.builtin "isinstance") (fun xs H Q => ∃ (a C D : Addr) (dd : Option Addr) (ns : List PySem.Str) (vs : List V) (b : Bool), xs = [.ref a, .ref D] ∧ H a = some (xob a (.ref C) dd) ∧ ExF H dd ns vs ∧ ExK X.K C ∧ PySem.W.kitOne X.K (.ref C) (.ref D) = some b ∧ Q (.bl b) H) := by
  intro pins s σ H xs us Q I r h
  obtain ⟨a, C, D, dd, ns, vs, b, rfl, ha, hf, T, e, q⟩ := h
  obtain ⟨u1, u2, rfl, r1, r2⟩ := vals2 r
  cases (show u1 = Value.ref a from r1)
  cases (show u2 = Value.ref D from r2)
  obtain ⟨ox, od, J, _⟩ := inst_exc I ha hf
  exact PySem.W.kia_one (PySem.W.kitx_exc T.cl T.xf.ga T.xf.gg T.xf.exC T.ca T.cg T.tk T.ob) I.kIn J e (fun z => nomatch z) fun tk => ⟨.bl b, H, I.tok tk, rfl, q⟩
end
abbrev dIsiE (K : Frag) (D : PySem.Str) (t : DE) : DE := fun s Q => t s fun d k => ∃ n ns ds b, d = .exc n ns ds ∧ ExK K (He.ga K n) ∧ PySem.W.kitOne K (.ref (He.ga K n)) (.ref (He.ga K D)) = some b ∧ Q (.bl b) k
abbrev dXf (K : Frag) (f : PySem.Str) (t : DE) : DE := fun s Q => t s fun d k => ∃ n ds e, d = .exc n [f] ds ∧ ds = [e] ∧ ExK K (He.ga K n) ∧ PySem.W.findIn K (.ref (He.ga K n)) f = some none ∧ Q e k
section
variable {X : Cx} {c : C} {pos p : Pos}
theorem pd_isiE (hK : c.K = X.K) (hm : X.mg "isinstance" = none) {D : PySem.Str} (hD : X.mg D = some (.ref (He.ga X.K D))) {e : Expr} {t : DE} {pt : Pos} (h : PE X e (LE c t)) (hg : Gl X "isinstance" := by rfl) (hgT : Gl X D := by rfl) (hdT : (D == ("__debug__" : PySem.Str)) = false := by decide)
    (hs : starEach [e, Expr.Name D pt] X.env = (false, eval e X.env) :: starEach [Expr.Name D pt] X.env := by rfl) (hs2 : starEach [Expr.Name D pt] X.env = (false, eval (Expr.Name D pt) X.env) :: starEach [] X.env := by rfl) (hp : (backTo pos (starEach [Expr.Name D pt] X.env)).any (·.1) = false := by rfl) :
    PE X (.Call (.Name "isinstance" p) [e, .Name D pt] [] pos) (LE c (dIsiE X.K D t)) :=
  (pe_callB call_isiE hg hm PyProof.Rows.boot_isinstance (pa_cons h (pa_cons (pe_glob (v := .ref (He.ga X.K D)) hgT hD rfl hdT) pa_nil hs2) hs) (he := hs) (hpl := hp)).weak fun σ H Q ⟨s, R, rp, q, f⟩ => ⟨s, _, rp, q, fun d k ⟨n, ns, ds, b, h1, h2, h3, h4⟩ v H1 r1 a1 e1 => by
    subst h1
    cases e1 with
    | exc hx hf hl hr => exact ⟨_, _, _, _, _, _, b, rfl, by rw [← hK]; exact wo_sub _ _ _ _ hx, hf.mono (wo_sub _ _), h2, h3, f _ k h4 _ H1 r1 a1 (.bl _)⟩⟩
theorem pd_xf (hK : c.K = X.K) {n : PySem.Str} {e : Expr} {t : DE} (he : PE X e (LE c t)) (hb : attributeBase e n X.env (eval e X.env) = eval e X.env := by rfl) : PE X (.Attribute e n pos) (LE c (dXf X.K n t)) := by
  refine ⟨fun pins s σ H Q I ⟨st, R, rp, q, f⟩ => attr_of hb (thn (he.run pins s σ H (fun v H1 => ∃ (k : Nat) (d : D) (e' : PySem.Str × D), d = .exc e'.1 [n] [e'.2] ∧ ExK X.K (He.ga X.K e'.1) ∧ PySem.W.findIn X.K (.ref (He.ga X.K e'.1)) n = some none ∧ R e'.2 k ∧ Rep c (st.at k) σ H1 ∧ AdvE c st.X H H1 ∧ Rl c.K (c.hid st.X H1) v d) I ⟨st, _, rp, q, fun d k hd v H1 r1 a1 e1 => ?_⟩) fun u s1 hh => ?_)⟩
  · obtain ⟨m, ds, e', rfl, rfl, h2, h3, h4⟩ := hd
    exact ⟨k, _, (m, e'), rfl, h2, h3, h4, r1, a1, e1⟩
  · obtain ⟨x, H1, I1, rx, k, d, ⟨m, e'⟩, rfl, T, hno, hR, r1, a1, e1⟩ := hh
    cases e1 with
    | exc hx hf hl hr =>
      rename_i a dd vs
      obtain rfl : u = Value.ref a := rx
      cases hr with
      | cons h1 h2 =>
        cases h2
        rename_i v
        have hx' : H1 a = some (xob a (.ref (He.ga X.K m)) dd) := by rw [← hK]; exact wo_sub _ _ _ _ hx
        obtain ⟨ox, od, J, look⟩ := inst_exc I1 hx' (hf.mono (wo_sub _ _))
        obtain ⟨o, w, rfl, hl2, rw2⟩ := look n v (by show List.lookup n [(n, v)] = some v; rw [List.lookup_cons, beq_self_eq_true])
        exact HandSPX.exc_get I1.kIn J T.xf.ga T.xf.gg T.xf.exC (PySem.W.findObj_own T.xf.hdC hno rfl hl2) (handed_of rw2) ⟨v, H1, I1.tok _, rw2, f _ _ hR v H1 r1 a1 h1⟩
end
end DL
set_option maxHeartbeats 1000000
namespace DL
open PySem L2
open PySem.W (Frag)
abbrev dFrzS (t : DS) : DS := fun DD s => ∀ X, t DD ⟨X, s.sl.map Sl.frz, s.k⟩
abbrev dPlN (i : Nat) (t : DE) : DA := fun s Q => ∃ p ds, s.sl[i]? = some (.own p ds) ∧ t s fun d k => ∃ es, d = .lst es ∧ ds.length + es.length ≤ lim ∧ Q (ds ++ es) k
section
variable {X : Cx} {c : C} {pos : Pos}
theorem psd_frz {st : Stmt} {t : DS} (h : PS X st (LS c t)) : PS X st (LS c (dFrzS t)) := h.weak fun D σ H ⟨s, DD, rp, q, f⟩ => ⟨_, DD, rp.frz, q c.X0, f.on rp.sub0⟩
theorem pdf_plN (i : Nat) {x : PySem.Str} {pn : Pos} {e : Expr} {t : DE} (he : PE X e (LE c t)) (hN : X.N[i]? = some x := by rfl) (hv : Vis X.env.scope x := by first | exact Or.inl rfl | exact Or.inr (Or.inl rfl) | exact Or.inr (Or.inr rfl)) (hd : (x == ("__debug__" : PySem.Str)) = false := by decide) (hcd : (x == ("__classdict__" : PySem.Str)) = false := by decide) :
    PE X (.BinOp (.Name x pn) .Add e pos) (LF c (dPlN i t)) :=
  (pe_op op_cat (pe_var hN hv hd hcd) he).weak fun σ H Q ⟨s, R, rp, ⟨p, ds, h, q⟩, f⟩ => by
    obtain ⟨e1, h1, h2, h3, vs, h4, h5⟩ := rp.slot i _ h
    refine ⟨_, e1, s, _, rp, q, fun d k ⟨es, hd, hl, hR⟩ v H1 r1 a1 e2 => ?_⟩
    subst hd
    obtain ⟨b, us, rfl, h6, r6⟩ := e2.lstE
    have h7 : H1 p = some (.lst vs) := by rw [a1.own p h1]; exact h4
    exact ⟨p, b, vs, us, rfl, rfl, h7, wo_sub _ _ _ _ h6, by rw [h5.len, r6.len]; exact Nat.le_of_lt (lim_lt hl), fun y hy => f _ k hR y _ (NewL.mk' r1 a1 ((h5.mono a1.sub).app r6) hy)⟩
end
end DL
set_option maxHeartbeats 1000000
namespace DL
open PySem L2
open PySem.W (Frag)
abbrev dEor (t u : DE) : DE := fun s Q => t s Q ∨ u s Q
theorem pd_eor {X : Cx} {c : C} {e : Expr} {t u : DE} (h1 : PE X e (LE c t)) (h2 : PE X e (LE c u)) : PE X e (LE c (dEor t u)) := ⟨fun p s σ H Q I ⟨st, R, rp, q, f⟩ => by
  rcases q with q | q
  · exact h1.run p s σ H Q I ⟨st, R, rp, q, f⟩
  · exact h2.run p s σ H Q I ⟨st, R, rp, q, f⟩⟩
end DL
set_option maxHeartbeats 1000000
namespace DL
open PySem L2
open PySem.W (Frag)
mutual
def D.nol : D → Bool
  | .non => true
  | .bl _ => true
  | .int _ => true
  | .str _ => true
  | .lst _ => false
  | .tup xs => nolA xs
  | .dic => true
  | .ins _ _ xs => nolA xs
  | .exc _ _ xs => nolA xs
def nolA : List D → Bool
  | [] => true
  | d :: r => D.nol d && nolA r
end
def SubN (A B : Hp) : Prop := ∀ a o, A a = some o → (∀ vs, o ≠ .lst vs) → B a = some o
theorem SubN.trans {A B C : Hp} (x : SubN A B) (y : SubN B C) : SubN A C := fun a o h n => y a o (x a o h n) n
theorem SubN.st {K : Frag} {A B : Hp} (x : SubN A B) {a : Addr} {vs : List V} (h : SqT K A a vs) : SqT K B a vs := by
  rcases h with h | h
  · refine .inl ?_
    rcases h with h | ⟨o, h⟩
    · exact .inl (x _ _ h fun vs z => nomatch z)
    · exact .inr ⟨o, x _ _ h fun vs z => nomatch z⟩
  · exact .inr h
theorem SubN.exf {A B : Hp} (x : SubN A B) {dd : Option Addr} {ns : List PySem.Str} {vs : List V} (h : ExF A dd ns vs) : ExF B dd ns vs := h.imp id fun ⟨d, e, q⟩ => ⟨d, e, x _ _ q fun vs z => nomatch z⟩
mutual
theorem Rl.keepN {K : Frag} {A B : Hp} (x : SubN A B) : ∀ {v : V} {d : D}, Rl K A v d → D.nol d = true → Rl K B v d
  | _, _, .non, _ => .non
  | _, _, .bl b, _ => .bl b
  | _, _, .int i, _ => .int i
  | _, _, .str s, _ => .str s
  | _, _, .lst _ _, n => by cases n
  | _, _, .tup h r, n => .tup (x.st h) (RlA.keepN x r n)
  | _, _, .dic h, _ => .dic (x _ _ h fun vs z => nomatch z)
  | _, _, .ins h l r, n => .ins (x _ _ h fun vs z => nomatch z) l (RlA.keepN x r n)
  | _, _, .exc h f l r, n => .exc (x _ _ h fun vs z => nomatch z) (x.exf f) l (RlA.keepN x r n)
theorem RlA.keepN {K : Frag} {A B : Hp} (x : SubN A B) : ∀ {vs : List V} {ds : List D}, RlA K A vs ds → nolA ds = true → RlA K B vs ds
  | _, _, .nil, _ => .nil
  | _, _, .cons h r, n => .cons (Rl.keepN x h (Bool.and_eq_true_iff.mp n).1) (RlA.keepN x r (Bool.and_eq_true_iff.mp n).2)
end
mutual
def mu (es : List D) : D → D → Prop
  | .lst xs, d' => d' = .lst es ∨ ∃ ys, d' = .lst ys ∧ muA es xs ys
  | .tup xs, d' => ∃ ys, d' = .tup ys ∧ muA es xs ys
  | .ins C ns xs, d' => ∃ ys, d' = .ins C ns ys ∧ muA es xs ys
  | .exc n ns xs, d' => ∃ ys, d' = .exc n ns ys ∧ muA es xs ys
  | .non, d' => d' = .non
  | .bl b, d' => d' = .bl b
  | .int i, d' => d' = .int i
  | .str x, d' => d' = .str x
  | .dic, d' => d' = .dic
def muA (es : List D) : List D → List D → Prop
  | [], ys => ys = []
  | x :: xs, ys => ∃ y r, ys = y :: r ∧ mu es x y ∧ muA es xs r
end
mutual
theorem mu_nol {es : List D} : ∀ {d d' : D}, mu es d d' → D.nol d = true → d' = d
  | .non, _, h, _ => h
  | .bl _, _, h, _ => h
  | .int _, _, h, _ => h
  | .str _, _, h, _ => h
  | .dic, _, h, _ => h
  | .lst _, _, _, n => by cases n
  | .tup xs, _, ⟨ys, e, h⟩, n => by rw [e, muA_nol h n]
  | .ins _ _ xs, _, ⟨ys, e, h⟩, n => by rw [e, muA_nol h n]
  | .exc _ _ xs, _, ⟨ys, e, h⟩, n => by rw [e, muA_nol h n]
theorem muA_nol {es : List D} : ∀ {ds ds' : List D}, muA es ds ds' → nolA ds = true → ds' = ds
  | [], _, h, _ => h
  | x :: xs, _, ⟨y, r, e, h1, h2⟩, n => by
    have n := Bool.and_eq_true_iff.mp n
    rw [e, mu_nol h1 n.1, muA_nol h2 n.2]
end
section
variable {K : Frag} {A B : Hp} {a : Addr} {vs0 vs1 : List V} {es : List D}
theorem chg_subN (ha : A a = some (.lst vs0)) (o : ∀ b, b ≠ a → ∀ u, A b = some u → B b = some u) : SubN A B := fun b u e n => o b (fun z => by
  subst z
  rw [ha] at e
  exact n _ (Option.some.inj e).symm) u e
mutual
theorem Rl.mu (ha : A a = some (.lst vs0)) (hb : B a = some (.lst vs1)) (o : ∀ b, b ≠ a → ∀ u, A b = some u → B b = some u) (e : RlA K B vs1 es) : ∀ {v : V} {d : D}, Rl K A v d → ∃ d', Rl K B v d' ∧ DL.mu es d d'
  | _, _, .non => ⟨_, .non, rfl⟩
  | _, _, .bl b => ⟨_, .bl b, rfl⟩
  | _, _, .int i => ⟨_, .int i, rfl⟩
  | _, _, .str s => ⟨_, .str s, rfl⟩
  | _, _, .lst (a := p) h r => by
    by_cases z : p = a
    · subst z
      exact ⟨.lst es, .lst hb e, .inl rfl⟩
    · obtain ⟨ys, h1, h2⟩ := RlA.mu ha hb o e r
      exact ⟨.lst ys, .lst (o _ z _ h) h1, .inr ⟨ys, rfl, h2⟩⟩
  | _, _, .tup h r => by
    obtain ⟨ys, h1, h2⟩ := RlA.mu ha hb o e r
    exact ⟨.tup ys, .tup ((chg_subN ha o).st h) h1, ys, rfl, h2⟩
  | _, _, .dic h => ⟨_, .dic (chg_subN ha o _ _ h fun vs z => nomatch z), rfl⟩
  | _, _, .ins h l r => by
    obtain ⟨ys, h1, h2⟩ := RlA.mu ha hb o e r
    exact ⟨_, .ins (chg_subN ha o _ _ h fun vs z => nomatch z) l h1, ys, rfl, h2⟩
  | _, _, .exc h f l r => by
    obtain ⟨ys, h1, h2⟩ := RlA.mu ha hb o e r
    exact ⟨_, .exc (chg_subN ha o _ _ h fun vs z => nomatch z) ((chg_subN ha o).exf f) l h1, ys, rfl, h2⟩
theorem RlA.mu (ha : A a = some (.lst vs0)) (hb : B a = some (.lst vs1)) (o : ∀ b, b ≠ a → ∀ u, A b = some u → B b = some u) (e : RlA K B vs1 es) : ∀ {vs : List V} {ds : List D}, RlA K A vs ds → ∃ ds', RlA K B vs ds' ∧ muA es ds ds'
  | _, _, .nil => ⟨[], .nil, rfl⟩
  | _, _, .cons h r => by
    obtain ⟨y, h1, h2⟩ := Rl.mu ha hb o e h
    obtain ⟨ys, h3, h4⟩ := RlA.mu ha hb o e r
    exact ⟨y :: ys, .cons h1 h3, y, ys, rfl, h2, h4⟩
end
end
def muSl (es : List D) : Sl → Sl → Prop
  | .no, x => x = .no
  | .dat d, x => ∃ d', x = .dat d' ∧ mu es d d'
  | .own p ds, x => ∃ ds', x = .own p ds' ∧ muA es ds ds'
  | .mst, x => x = .mst
  | .scr _, x => x = .no
def muL (es : List D) : List Sl → List Sl → Prop
  | [], y => y = []
  | x :: xs, y => ∃ z r, y = z :: r ∧ muSl es x z ∧ muL es xs r
theorem muL_of {es : List D} : ∀ {sl : List Sl} {P : Nat → Sl → Prop}, (∀ i x, sl[i]? = some x → ∃ y, muSl es x y ∧ P i y) → ∃ sl', muL es sl sl' ∧ sl'.length = sl.length ∧ ∀ i y, sl'[i]? = some y → P i y
  | [], _, _ => ⟨[], rfl, rfl, fun i y h => by cases h⟩
  | x :: xs, P, h => by
    obtain ⟨y, h1, h2⟩ := h 0 x rfl
    obtain ⟨r, h3, h4, h5⟩ := muL_of (sl := xs) (P := fun i => P (i + 1)) fun i z hz => h (i + 1) z hz
    refine ⟨y :: r, ⟨y, r, rfl, h1, h3⟩, congrArg (· + 1) h4, fun i z hz => ?_⟩
    cases i with
    | zero => cases hz; exact h2
    | succ i => exact h5 i z hz
def Weak (c : C) : Prop := ∀ a vs, c.hid c.X0 c.H0 a ≠ some (.lst vs)
theorem Rep.chgL {c : C} {s : S} {σ : L2.St} {H : Hp} {a : Addr} {vs0 vs1 : List V} {es : List D} (hw : Weak c) (r : Rep c s σ H) (ha : c.hid s.X H a = some (.lst vs0)) (e : RlA c.K (c.hid s.X H) vs1 es) (n : nolA es = true) :
    ∃ sl', muL es s.sl sl' ∧ Rep c ⟨s.X, sl', s.k⟩ σ (upd H a (.lst vs1)) := by
  obtain ⟨nx, hH⟩ := wo_ne ha
  have hb : c.hid s.X (upd H a (.lst vs1)) a = some (.lst vs1) := wo_of nx upd_same
  have o : ∀ b, b ≠ a → ∀ u, c.hid s.X H b = some u → c.hid s.X (upd H a (.lst vs1)) b = some u := fun b hb u e => by
    obtain ⟨h1, h2, h3⟩ := wo_all e
    exact wo_of h1 (by rw [upd_ne hb]; exact h2) h3
  have sN : SubN (c.hid s.X H) (c.hid s.X (upd H a (.lst vs1))) := chg_subN ha o
  have e' := e.keepN sN n
  have ox : ∀ b ∈ s.X, (upd H a (.lst vs1)) b = H b := fun b hb => upd_ne fun z => nx (List.mem_append_right _ (z ▸ hb))
  obtain ⟨sl', h1, h2, h3⟩ := muL_of (es := es) (sl := s.sl) (P := fun i y => SlOk c s.X (upd H a (.lst vs1)) σ[i]? y ∧ ∀ p ds', y = .own p ds' → ∃ ds, s.sl[i]? = some (.own p ds)) fun i x hx => by
    have q := r.slot i x hx
    cases x with
    | no => exact ⟨.no, rfl, trivial, fun _ _ z => nomatch z⟩
    | mst => exact ⟨.mst, rfl, q, fun _ _ z => nomatch z⟩
    | scr ns => exact ⟨.no, rfl, trivial, fun _ _ z => nomatch z⟩
    | dat d =>
      obtain ⟨v, h1, h2⟩ := q
      obtain ⟨d', h3, h4⟩ := h2.mu ha hb o e'
      exact ⟨.dat d', ⟨d', rfl, h4⟩, ⟨v, h1, h3⟩, fun _ _ z => nomatch z⟩
    | own p ds =>
      obtain ⟨q1, q2, q3, q4, us, q5, q6⟩ := q
      obtain ⟨ds', h3, h4⟩ := RlA.mu ha hb o e' q6
      refine ⟨.own p ds', ⟨ds', rfl, h4⟩, ⟨q1, q2, q3, q4, us, by rw [ox p q2]; exact q5, h3⟩, fun p' ds2 z => ?_⟩
      cases z
      exact ⟨ds, hx⟩
  have tb : TbK H (upd H a (.lst vs1)) := .at_ hH
  refine ⟨sl', h1, ⟨fun b u eb => ?_, fun b hb hm hn => ?_, r.x0, r.xm, fun b hb => by rw [ox b hb]; exact r.xs b hb, r.m.eq (fun b hb _ => upd_ne fun z => nx (List.mem_append_left _ (z ▸ hb))) tb, fun i y hy => (h3 i y hy).1, fun i j p q ds es' e1 e2 ne => ?_, h2.trans r.len, r.tb.trans tb, fun b hb => by rw [ox b hb]; exact r.xt b hb⟩⟩
  · have z := r.sub b u eb
    refine o b (fun y => ?_) u z
    subst y
    rw [ha] at z
    cases z
    exact hw _ _ eb
  · rw [ox b (r.x0 b hb)]
    exact r.old b hb hm hn
  · obtain ⟨d1, g1⟩ := (h3 i _ e1).2 p ds rfl
    obtain ⟨d2, g2⟩ := (h3 j _ e2).2 q es' rfl
    exact r.apart i j p q d1 d2 g1 g2 ne
@[reducible] def Sl.cln : Sl → Sl
  | .dat d => if D.nol d = true then .dat d else .no
  | .own p ds => if nolA ds = true then .own p ds else .no
  | .mst => .mst
  | _ => .no
structure AftW (K : Frag) (M : Option Mc) (X0 : List Addr) (H H' : Hp) (k : Nat) : Prop where
  sub : SubN (wo H (Ml M ++ X0)) (wo H' (Ml M ++ X0))
  old : ∀ a ∈ X0, H' a = H a
  m : MAt M H' k
  tb : TbK H H'
theorem Rep.afterW {c : C} {s : S} {σ : L2.St} {H H' : Hp} {k : Nat} (hw : Weak c) (r : Rep c s σ H) (a : AftW c.K c.M s.X H H' k) : Rep c ⟨s.X, s.sl.map Sl.cln, k⟩ σ H' := by
  have sN : SubN (c.hid s.X H) (c.hid s.X H') := a.sub
  refine ⟨fun b u eb => ?_, fun b hb hm hn => by rw [a.old b (r.x0 b hb)]; exact r.old b hb hm hn, r.x0, r.xm, fun b hb => by rw [a.old b hb]; exact r.xs b hb, a.m, fun i y hy => ?_, fun i j p q ds es e1 e2 ne => ?_, by show (s.sl.map Sl.cln).length = _; rw [List.length_map]; exact r.len, r.tb.trans a.tb, fun b hb => by rw [a.old b hb]; exact r.xt b hb⟩
  · exact sN b u (r.sub b u eb) fun vs z => hw b vs (by rw [eb, z])
  · have hy : (s.sl.map Sl.cln)[i]? = some y := hy
    rw [List.getElem?_map] at hy
    obtain ⟨x, hx, rfl⟩ := Option.map_eq_some_iff.mp hy
    have q := r.slot i x hx
    cases x with
    | no => trivial
    | mst => exact q
    | scr ns => trivial
    | dat d =>
      obtain ⟨v, h1, h2⟩ := q
      show SlOk c s.X H' σ[i]? (if D.nol d = true then .dat d else .no)
      by_cases n : D.nol d = true
      · rw [if_pos n]; exact ⟨v, h1, h2.keepN sN n⟩
      · rw [if_neg n]; trivial
    | own p ds =>
      obtain ⟨q1, q2, q3, q4, us, q5, q6⟩ := q
      show SlOk c s.X H' σ[i]? (if nolA ds = true then .own p ds else .no)
      by_cases n : nolA ds = true
      · rw [if_pos n]; exact ⟨q1, q2, q3, q4, us, by rw [a.old p q2]; exact q5, q6.keepN sN n⟩
      · rw [if_neg n]; trivial
  · have back : ∀ (i : Nat) (p : Addr) (ds : List D), (s.sl.map Sl.cln)[i]? = some (.own p ds) → s.sl[i]? = some (.own p ds) := fun i p ds h => by
      rw [List.getElem?_map] at h
      obtain ⟨x, hx, e⟩ := Option.map_eq_some_iff.mp h
      cases x with
      | no => cases e
      | mst => cases e
      | scr ns => cases e
      | dat d =>
        have e : (if D.nol d = true then Sl.dat d else .no) = .own p ds := e
        split at e <;> cases e
      | own q es =>
        have e : (if nolA es = true then Sl.own q es else .no) = .own p ds := e
        split at e
        · cases e; exact hx
        · cases e
    exact r.apart i j p q ds es (back i p ds e1) (back j q es e2) ne
structure FitsW (c : C) (DD : DEnds) (D : Ends) : Prop where
  nx : ∀ s' σ' H', Rep c s' σ' H' → DD.nx s' → D.nx σ' H'
  bk : ∀ s' σ' H', Rep c s' σ' H' → DD.bk s' → D.bk σ' H'
  ct : ∀ s' σ' H', Rep c s' σ' H' → DD.ct s' → D.ct σ' H'
  rt : ∀ d k v H', Fin c H' k → Rl c.K (c.hid c.X0 H') v d → DD.rt d k → D.rt v H'
def LSW (c : C) (t : DS) : TS := fun D σ H => ∃ s DD, Rep c s σ H ∧ t DD s ∧ FitsW c DD D
theorem FitsW.fits {c : C} {DD : DEnds} {D : Ends} (f : FitsW c DD D) (X : List Addr) (H : Hp) : Fits c X H DD D :=
  ⟨fun s σ H' r _ q => f.nx s σ H' r q, fun s σ H' r _ q => f.bk s σ H' r q, fun s σ H' r _ q => f.ct s σ H' r q, f.rt⟩
section
variable {X : Cx} {c : C} {pos : Pos}
theorem psW_of {st : Stmt} {t : DS} (h : PS X st (LS c t)) : PS X st (LSW c t) := h.weak fun D σ H ⟨s, DD, rp, q, f⟩ => ⟨s, DD, rp, q, f.fits _ _⟩
theorem psW_cons {st : Stmt} {r : List Stmt} {t u : DS} (h1 : PS X st (LSW c t)) (h2 : PSs X r (LSW c u)) : PSs X (st :: r) (LSW c (dSeq t u)) :=
  (pss_cons h1 h2).weak fun D σ H ⟨s, DD, rp, q, f⟩ => ⟨s, { DD with nx := u DD }, rp, q, ⟨fun s' σ' H' r' q' => ⟨s', DD, r', q', f⟩, f.bk, f.ct, f.rt⟩⟩
theorem psW_one {st : Stmt} {t : DS} (h1 : PS X st (LSW c t)) : PSs X [st] (LSW c t) := pss_one h1
def YlW (c : C) (J : It) (items : List D) : Prop := ∀ (i : Nat) (s : S) (σ : L2.St) (H : Hp), Rep c s σ H →
  (items.length ≤ i → J.stop i H) ∧ ∀ d, items[i]? = some d → J.go i H ∧ ∀ x H', J.yld i H x H' → Rep c s σ H' ∧ AdvE c s.X H H' ∧ Rl c.K (c.hid s.X H') x d
def LIW (c : C) (t : DI) : TI := fun σ H R => ∃ s Z, Rep c s σ H ∧ t s Z ∧ ∀ items k, Z items k → ∀ J H', Rep c (s.at k) σ H' → AdvE c s.X H H' → YlW c J items → R J H'
theorem YlW.range {c : C} {lo : Int} {n : Nat} : YlW c (Itr lo n) (rngD lo n) := fun i s σ H rp => by
  refine ⟨fun h => by rw [rngD_len] at h; exact h, fun d hd => ?_⟩
  obtain ⟨hi, rfl⟩ := rngD_at hd
  refine ⟨hi, fun x H' ⟨e1, e2⟩ => ?_⟩
  subst e1 e2
  exact ⟨rp, AdvE.refl, .int _⟩
theorem pidW_r1 {tg a : Expr} {t : DE} {p pos : Pos} (hm : X.mg "range" = none) (ha : PE X a (LE c t)) (hg : Gl X "range" := by rfl) (hs : starEach [a] X.env = [(false, eval a X.env)] := by rfl) : PI X tg (.Call (.Name "range" p) [a] [] pos) (LIW c (iR1 t)) :=
  PI.weak (pi_range1 hg hm (pad_cons ha pad_nil hs) hs) fun σ H R ⟨s, Z, rp, q, f⟩ =>
    ⟨s, fun ds k => (match ds with | [d] => ∃ j, d = .int j ∧ -(2 ^ 62) ≤ j ∧ j < 2 ^ 62 ∧ Z (rngD 0 j.toNat) k | _ => False), rp, q, fun ds k hq vs H1 r1 a1 e1 => by
      cases e1 with
      | nil => exact hq.elim
      | cons e1 e2 =>
        cases e2 with
        | cons _ _ => exact hq.elim
        | nil =>
          obtain ⟨j, hd, h1, h2, hz⟩ := hq
          subst hd
          cases e1.intE
          exact ⟨j, rfl, h1, h2, f _ k hz _ H1 r1 a1 YlW.range⟩⟩
theorem psW_for {tg iter : Expr} {body : List Stmt} {it : DI} {g : DG} {tb : DS} {ts : List Nat} (hp : PassesOwn (model X.prog X.w) X.A X.env X.xe) (hc : X.calm = true) (hi : PI X tg iter (LIW c it)) (hg : PG X tg (LG c ts g)) (hb : PSs X body (LSW c tb))
    (hs : ∀ x, foldedSetIterable iter X.env x = pure x := by intro _; rfl) : PS X (.For tg iter body [] pos) (LSW c (dFor it g tb)) :=
  (ps_for hp hc hi hg hb hs).weak fun D σ H ⟨s, DD, rp, q, f⟩ => by
    refine ⟨s, _, rp, q, fun items k0 ⟨IV, i0, turn, fin⟩ J H1 r1 a1 yl => ?_⟩
    refine ⟨fun i m σ' H' => m = items.length - i ∧ i ≤ items.length ∧ ∃ s', IV i s' ∧ Rep c s' σ' H', ⟨items.length, by simp, Nat.zero_le _, s.at k0, i0, r1⟩, ?_⟩
    rintro i m σ' H' ⟨rfl, hi', s', hI, rp'⟩
    obtain ⟨yl1, yl2⟩ := yl i s' σ' H' rp'
    by_cases hlt : i < items.length
    · obtain ⟨d, hd⟩ : ∃ d, items[i]? = some d := ⟨items[i], by simp [hlt]⟩
      obtain ⟨go, yd⟩ := yl2 d hd
      refine .inr ⟨go, fun σ2 H2 => ∃ s', IV (i + 1) s' ∧ Rep c s' σ2 H2, fun σ2 H2 ⟨s2, h⟩ => ⟨items.length - (i + 1), by omega, rfl, hlt, s2, h⟩, fun x H2 hy => ?_⟩
      obtain ⟨r2, a2, e2⟩ := yd x H2 hy
      refine ⟨s', _, d, r2, e2, turn i d s' hd hI, fun s3 h3 σ3 H3 r3 a3 x3 _ _ => ?_⟩
      exact ⟨s3, _, r3, h3, ⟨fun s4 σ4 H4 r4 h4 => ⟨s4, h4, r4⟩, fun s4 σ4 H4 r4 h4 => f.nx s4 σ4 H4 r4 h4, fun s4 σ4 H4 r4 h4 => ⟨s4, h4, r4⟩, f.rt⟩⟩
    · have e : i = items.length := by omega
      subst e
      exact .inl ⟨yl1 (Nat.le_refl _), f.nx s' σ' H' rp' (fin s' hI)⟩
abbrev dMut (i : Nat) (t1 t2 te : DE) : DS := fun DD s => te s fun d k => D.nol d = true ∧ (dIxN i t1) (s.at k) fun q k1 => ∃ es, q = .lst es ∧ nolA es = true ∧ t2 (s.at k1) fun j k2 => ∃ z n, j = .int z ∧ ixN es.length z = some n ∧ ∀ sl', muL (es.set n d) s.sl sl' → DD.nx ⟨s.X, sl', k2⟩
theorem nolA_set {d : D} (h : D.nol d = true) : ∀ {es : List D} (n : Nat), nolA es = true → nolA (es.set n d) = true
  | [], _, e => e
  | _ :: r, 0, e => Bool.and_eq_true_iff.mpr ⟨h, (Bool.and_eq_true_iff.mp e).2⟩
  | _ :: r, n + 1, e => Bool.and_eq_true_iff.mpr ⟨(Bool.and_eq_true_iff.mp e).1, nolA_set h n (Bool.and_eq_true_iff.mp e).2⟩
theorem psW_mut (hw : Weak c) (hK : c.K = X.K) (i : Nat) {x : PySem.Str} {pn p1 p2 : Pos} {e1 e2 e : Expr} {t1 t2 te : DE} (h1 : PE X e1 (LE c t1)) (h2 : PE X e2 (LE c t2)) (he : PE X e (LE c te)) (hN : X.N[i]? = some x := by rfl) (hv : Vis X.env.scope x := by first | exact Or.inl rfl | exact Or.inr (Or.inl rfl) | exact Or.inr (Or.inr rfl)) (hd : (x == ("__debug__" : PySem.Str)) = false := by decide) (hcd : (x == ("__classdict__" : PySem.Str)) = false := by decide) (hs1 : PlainIx e1 := by exact fun _ _ => rfl)
    (ha : ∀ v, assign (.Subscript (.Subscript (.Name x pn) e1 p1) e2 p2) X.env v = (do
      let ov ← holding [v] (eval (.Subscript (.Name x pn) e1 p1) X.env)
      let iv ← holding [v, ov] (eval e2 X.env)
      standAt p2
      holding [v, ov, iv] (setItem ov iv v)
      release [v, ov, iv] []) := by intro _; rfl)
    (hs : swapsWithSole [.Subscript (.Subscript (.Name x pn) e1 p1) e2 p2] e pos.line X.env = pure false := by rfl) (hsw : swappedStores [.Subscript (.Subscript (.Name x pn) e1 p1) e2 p2] e X.env = pure none := by rfl)
    (hA : (assignEach [.Subscript (.Subscript (.Name x pn) e1 p1) e2 p2] X.env).map (·.2) = [assign (.Subscript (.Subscript (.Name x pn) e1 p1) e2 p2) X.env] := by rfl) :
    PS X (.Assign [.Subscript (.Subscript (.Name x pn) e1 p1) e2 p2] e pos) (LSW c (dMut i t1 t2 te)) :=
  (ps_asg he (pg_sub (pd_ixN hK i h1 hN hv hd hcd hs1) h2 set_list ha) hs hsw hA).weak fun D σ H ⟨s, DD, rp, q, f⟩ => by
    refine ⟨s, _, rp, q, fun d k ⟨hnd, hq⟩ v H1 r1 a1 ev => ⟨s.at k, _, r1, hq, fun qd k1 ⟨es, eq, hn, h3⟩ w H2 r2 a2 ew => ⟨s.at k1, _, r2, h3, fun j k2 ⟨z, n, ej, hz, hR⟩ u H3 r3 a3 eu => ?_⟩⟩⟩
    subst eq ej
    obtain ⟨a, vs, rfl, hl, hr⟩ := (ew.mono a3.sub).lstE
    refine ⟨a, vs, z, n, rfl, eu.intE, wo_sub _ _ _ _ hl, by rw [hr.len]; exact hz, ?_⟩
    have hv := (ev.mono a2.sub).mono a3.sub
    obtain ⟨sl', m, r4⟩ := Rep.chgL (s := s.at k2) hw r3 hl (RlA.set hv n hr) (nolA_set hnd n hn)
    exact f.nx _ σ _ r4 (hR sl' m)
end
end DL
set_option maxHeartbeats 1000000
namespace DL
open PySem L2
open PySem.W (Frag)
theorem weak_none {c : C} (h : c.H0 = fun _ => none) : Weak c := fun a vs z => by
  have := (wo_ne z).2
  rw [h] at this
  cases this
def nlX (H : Hp) (X : List Addr) : Hp := fun a => if a ∈ X then H a else match H a with
  | some (.lst _) => none
  | o => o
theorem nlX_some {H : Hp} {X : List Addr} {a : Addr} {o : HO} (h : nlX H X a = some o) : H a = some o := by
  unfold nlX at h
  split at h
  · exact h
  · split at h
    · cases h
    · exact h
theorem nlX_in {H : Hp} {X : List Addr} {a : Addr} (h : a ∈ X) : nlX H X a = H a := by unfold nlX; rw [if_pos h]
theorem nlX_of {H : Hp} {X : List Addr} {a : Addr} {o : HO} (h : H a = some o) (n : ∀ vs, o ≠ .lst vs) : nlX H X a = some o := by
  unfold nlX
  split
  · exact h
  · rw [h]
    cases o <;> first | rfl | exact absurd rfl (n _)
theorem nlX_lst {H : Hp} {X : List Addr} {a : Addr} {vs : List V} (h : nlX H X a = some (.lst vs)) : a ∈ X := by
  unfold nlX at h
  split at h
  · assumption
  · rename_i hx
    exfalso
    split at h
    · cases h
    · rename_i n
      exact n vs h
theorem nlX_tb {H : Hp} {X : List Addr} : TbK H (nlX H X) := .of fun a o e k => nlX_of e fun vs z => by
  subst z
  rcases k with ⟨ps, z⟩ | ⟨q, z⟩
  · cases z
  · unfold LamX.CodeO at z; cases z
theorem nlX_weak {K : Frag} {M : Option Mc} {X0 : List Addr} {H : Hp} {ow : List Nat} : Weak ⟨K, M, X0, nlX H X0, ow⟩ := fun a vs z => by
  obtain ⟨h1, h2⟩ := wo_ne z
  exact h1 (List.mem_append_right _ (nlX_lst h2))
theorem Rep.wk {K : Frag} {M : Option Mc} {X0 : List Addr} {H : Hp} {ow : List Nat} {s : S} {σ : L2.St} (r : Rep ⟨K, M, X0, H, ow⟩ s σ H) : Rep ⟨K, M, X0, nlX H X0, ow⟩ s σ H := by
  refine ⟨fun a o e => ?_, fun a ha hm hn => by show H a = nlX H X0 a; rw [nlX_in ha], r.x0, r.xm, r.xs, r.m, fun i x hx => ?_, r.apart, r.len, .of fun a o e _ => nlX_some e, r.xt⟩
  · obtain ⟨h1, h2, h3⟩ := wo_all e
    exact r.sub a o (wo_of h1 (nlX_some h2) h3)
  · have q := r.slot i x hx
    cases x with
    | no => trivial
    | mst => exact q
    | scr ns => exact q
    | dat d => exact q
    | own p ds =>
      obtain ⟨q1, q2, q3, q4, q5⟩ := q
      refine ⟨q1, q2, q3, ?_, q5⟩
      show nlX H X0 p = none
      cases e : nlX H X0 p with
      | none => rfl
      | some o =>
        have q4 : H p = none := q4
        rw [nlX_some e] at q4
        cases q4
def spDW (K : Frag) (sp : DSp) : Sp := fun vs H Q _ => ∃ (m : Mc) (X0 : List Addr) (k : Nat) (ds : List D) (ws : List V) (R : D → Nat → Prop),
  vs = .ref m.pm :: ws ∧ Ahd K (some m) X0 H k ws ds ∧ nolA ds = true ∧ sp ds k R ∧
  ∀ d k', R d k' → ∀ v H', AftW K (some m) X0 H H' k' → Rl K (wo H' (Ml (some m) ++ X0)) v d → Q v H'
structure CalDW (P : Program) (w : World) (K : Frag) (mg : PySem.Str → Option Value) (base : Heap) (k : Nat) (x : PySem.Str) (sp : DSp) : Prop where
  ex : ∃ f fd ps, FnOk P w K mg base CX0 k f fd ps (spDW K sp) ∧ mg x = some (.ref f) ∧ PySem.W.keepIn K (.ref f) = true ∧ Binds K fd ps []
abbrev dSetCMW (i j : Nat) (sp : DSp) (t : DA) : DS := fun DD s => s.sl[j]? = some .mst ∧ t s fun ds k => nolA ds = true ∧ sp ds k fun d k' => DD.nx ⟨s.X, (s.sl.map Sl.cln).set i (.dat d), k'⟩
section
variable {X : Cx} {c : C} {k l : Nat} {x : PySem.Str} {sp : DSp} {p cpos pos pos' : Pos}
theorem psW_callM (hw : Weak c) (hK : c.K = X.K) (F : CalDW X.prog X.w X.K X.mg X.base k x sp) (hr : Room l X.A) (hk : k ≤ l) (i j : Nat) {y z : PySem.Str} {pn : Pos} {es : List Expr} {t : DA} (hNd : X.N.Nodup) (ha : PA X es (LA c t)) (hN : X.N[j]? = some y := by rfl) (hv : Vis X.env.scope y := by first | exact Or.inl rfl | exact Or.inr (Or.inl rfl) | exact Or.inr (Or.inr rfl)) (hd : (y == ("__debug__" : PySem.Str)) = false := by decide) (hcd : (y == ("__classdict__" : PySem.Str)) = false := by decide)
    (hi : X.N[i]? = some z := by rfl) (hz : Loc X.env.scope z := by first | exact Or.inl rfl | exact Or.inr rfl) (hs : swapsWith (.Call (.Name x p) (.Name y pn :: es) [] cpos) (some (.Name z pos')) pos.line X.env = pure false := by rfl) (hf : X.fn z = true ∨ X.env.scope.names.lookup z = some .local := by first | exact .inl rfl | exact .inr rfl)
    (hg : Gl X x := by rfl) (hdb : (x == ("__debug__" : PySem.Str)) = false := by decide) (he : starEach (Expr.Name y pn :: es) X.env = (false, eval (Expr.Name y pn) X.env) :: starEach es X.env := by rfl) (hpl : (backTo cpos (starEach es X.env)).any (·.1) = false := by rfl) :
    PS X (.Assign [.Name z pos'] (.Call (.Name x p) (.Name y pn :: es) [] cpos) pos) (LSW c (dSetCMW i j sp t)) := by
  obtain ⟨f, fd, ps, G, hm, kp, b⟩ := F.ex
  refine (ps_set hNd hi hz (pe_call G (hr.mono hk) hg hm kp b .nil pass0 (pa_cons (pe_var hN hv hd hcd) ha he) hdb he hpl) hs hf).weak fun D σ H ⟨s, DD, rp, ⟨hsl, q⟩, fn⟩ => ?_
  obtain ⟨m, hM, e0⟩ := rp.slot j _ hsl
  refine ⟨_, e0, s, _, rp, q, fun ds k1 ⟨hn, h1⟩ vs H1 r1 a1 e1 => ?_⟩
  refine ⟨m, s.X, k1, ds, vs, _, by rw [List.append_nil], ⟨by rw [← hM]; exact r1.xm, r1.xs, by rw [← hM]; exact r1.m, by rw [← hM, ← hK]; exact e1, r1.xt⟩, hn, h1, fun d k' hR v H' af er => ?_⟩
  have af' : AftW c.K c.M s.X H1 H' k' := by
    rw [hM]
    exact ⟨af.sub, af.old, af.m, af.tb⟩
  have z := Rep.afterW (s := s.at k1) hw r1 af'
  refine fn.nx _ _ H' (Rep.putD z ?_) hR
  rw [← hM, ← hK] at er
  exact er
end
section
variable {P : Program} {w : World} {K : Frag} {mg : PySem.Str → Option Value} {base : Heap}
theorem okDW {x qual : PySem.Str} {st : Stmt} {f : Addr} {fd : FuncData} {N ps : List PySem.Str} {k : Nat} {sp : DSp} (F : Fun K x qual st f fd) (Sc : FnScope N ps (defScope st)) (ow : List Nat)
    (len : ∀ ds k R, sp ds k R → ds.length + 1 = ps.length)
    (body : ∃ t : DS, (∀ (cdv : Value) (A : Around) (outer : List Env) (s : Shared) (H : Hp) (E : XK) (c : C), c.K = K → c.ow = ow → Weak c → Room k (A.deeper (PyProof.Rows.envOfC qual (defScope st) s.heap.objs.size f cdv)) →
        PSs (cxOf CX0 P w K mg base N qual (defScope st) f cdv A outer s H E).nox (defBody st) (LSW c t)) ∧
      ∀ X ds k R, sp ds k R → t { nx := fun s => R .non s.k, rt := R } ⟨X, init true N.length ds, k⟩) :
    FnOk P w K mg base CX0 (k + 1) f fd ps (spDW K sp) := by
  obtain ⟨t, hb, hr⟩ := body
  have lens : ∀ vs H Q E, spDW K sp vs H Q E → vs.length = ps.length := fun vs H Q E ⟨m, X0, k, ds, ws, R, e, a, _, h2, h3⟩ => by
    subst e
    rw [List.length_cons, a.args.len]
    exact len ds k R h2
  refine F.ok Sc lens fun cdv A outer s H vs Q E room h => ?_
  have hl := lens _ _ _ _ h
  obtain ⟨m, X0, k', ds, ws, R, e, a, hn, h2, h3⟩ := h
  have hpl : ps.length ≤ N.length := by have := congrArg List.length Sc.pre; rw [List.length_take] at this; omega
  have rp0 := init_rep (c := ⟨K, some m, X0, H, ow⟩) (hm := true) (N := N) rfl ⟨m, rfl, e⟩ a (by omega)
  have rp := Rep.wk rp0
  refine ⟨LSW ⟨K, some m, X0, nlX H X0, ow⟩ t, hb cdv A outer s H E _ rfl rfl nlX_weak room, ⟨X0, init true N.length ds, k'⟩, _, rp, hr X0 ds k' R h2, ?_⟩
  have fin : ∀ d k v H', Fin ⟨K, some m, X0, nlX H X0, ow⟩ H' k → Rl K (wo H' (Ml (some m) ++ X0)) v d → R d k → Q v H' := fun d k v H' fi e r => by
    refine h3 d k r v H' ⟨fun b o eb n => ?_, fun b hb => ?_, fi.m, nlX_tb.trans fi.tb⟩ e
    · obtain ⟨h1, h2, h3⟩ := wo_all eb
      exact fi.sub b o (wo_of h1 (nlX_of h2 n) h3)
    · rw [fi.old b hb (a.xm b hb) (by show nlX H X0 b ≠ none; rw [nlX_in hb]; exact a.xs b hb)]
      exact nlX_in hb
  exact ⟨fun s' σ' H' r q => fin .non s'.k .non H' r.fin .non q, fun _ _ _ _ q => q, fun _ _ _ _ q => q, fun d k v H' fi e r => fin d k v H' fi e r⟩
end
end DL
namespace DL
open PySem L2
open PySem.W (Frag dataLe AllAlike Sortable)
open PySem.W (EachIs)
end DL
namespace DL
open PySem L2
open PySem.W (Frag dataLe AllAlike Sortable)
end DL
set_option maxHeartbeats 1000000
namespace DL
open PySem PySem.Spec PyProof.Rows L2
open PySem.W (Frag)
section
variable {X : Cx} {c : C} {p pos apos : Pos} {e o : Expr} {t u : DE}
theorem Yl.str {s0 : S} {Hs : Hp} {x : PySem.Str} : Yl c s0 Hs (Its x) (x.cps.toList.map fun c => .str ⟨#[c]⟩) := fun i s σ H rp ad => by
  refine ⟨fun hl => by show x.cps.size ≤ i; rw [List.length_map, Array.length_toList] at hl; exact hl, fun d hd => ?_⟩
  rw [List.getElem?_map] at hd
  obtain ⟨z, hz, rfl⟩ := Option.map_eq_some_iff.mp hd
  rw [Array.getElem?_toList] at hz
  refine ⟨(Array.getElem?_eq_some_iff.mp hz).1, fun v H' ⟨e1, c1, e2, e3⟩ => ?_⟩
  subst e1 e3
  rw [hz] at e2
  cases e2
  exact ⟨rp, AdvE.refl, .str _⟩
end
end DL
set_option maxHeartbeats 1000000
namespace DL
open PySem PySem.Spec PyProof.Rows L2 L2G
open PySem.W (Frag)
end DL
namespace BW
open PySem L2 DL
abbrev Mat := List (List Int)
abbrev tI (xs : List Int) : D := .tup (xs.map .int)
abbrev lI (xs : List Int) : D := .lst (xs.map .int)
abbrev lM (T : Mat) : D := .lst (T.map lI)
abbrev tM (T : Mat) : D := .tup (T.map tI)
def at2 (T : Mat) (i j : Nat) : Int := (T.getD i []).getD j 0
def wts (k : Int) : Int × Int := if k = 2 then (0, 0) else if k = 3 then (1, 1) else if k = 4 then (1, 2) else if k = 6 then (1, 3) else (2, 2)
def wt (T : Mat) (i j : Nat) : Int := if i = j then -2 else if i < j then (wts (at2 T i j)).1 else (wts (at2 T i j)).2
structure Tab (T : Mat) : Prop where
  lo : 1 ≤ T.length
  hi : T.length ≤ 6
  sq : ∀ i, i < T.length → (T.getD i []).length = T.length
  dg : ∀ i, i < T.length → at2 T i i = 1
  of : ∀ i j, i < T.length → j < T.length → i ≠ j → at2 T i j = 2 ∨ at2 T i j = 3 ∨ at2 T i j = 4 ∨ at2 T i j = 6 ∨ at2 T i j = 0
  sy : ∀ i j, i < T.length → j < T.length → at2 T i j = at2 T j i
def press (T : Mat) (row : List Int) (i : Nat) : List Int := (List.range T.length).map fun j => row.getD j 0 + wt T i j * row.getD i 0
def wtr (T : Mat) (i : Nat) : List Int := (List.range T.length).map (wt T i)
def wtM (T : Mat) : Mat := (List.range T.length).map (wtr T)
abbrev bnd (BC : Addr) (T : Mat) : D := .ins BC ["table", "weights"] [tM T, tM (wtM T)]
abbrev ix (a : Int) : Nat := (a - 1).toNat
def Wd (n : Nat) (w : List Int) : Prop := ∀ a ∈ w, 1 ≤ a ∧ a ≤ n
def one (T : Mat) : List Int := List.replicate T.length 1
def row (T : Mat) (w : List Int) : List Int := w.foldl (fun r a => press T r (ix a)) (one T)
def fall (r : List Int) : List Int := ((List.range r.length).filter fun i => decide (r.getD i 0 < 0)).map fun (i : Nat) => (i : Int) + 1
def wd (T : Mat) : Nat → List Int → List Int × List Int
  | 0, r => ([], r)
  | n + 1, r => match fall r with
    | [] => ([], r)
    | a :: _ => (a :: (wd T n (press T r (ix a))).1, (wd T n (press T r (ix a))).2)
def D.isI : D → Bool
  | .int _ => true
  | _ => false
def D.isL (n : Int) : D → Bool
  | .int a => decide (1 ≤ a) && decide (a ≤ n)
  | _ => false
def sp_is_whole : DSp := fun ds k R => ∃ d, ds = [d] ∧ d.tname.isSome = true ∧ R (.bl (D.isI d)) k
def sp_weight_of : DSp := fun ds k R => ∃ T a b, ds = [tM T, .int a, .int b] ∧ Tab T ∧ 1 ≤ a ∧ a ≤ T.length ∧ 1 ≤ b ∧ b ≤ T.length ∧ R (.int (wt T (ix a) (ix b))) k
def sp_weights_from : DSp := fun ds k R => ∃ T a, ds = [tM T, .int a] ∧ Tab T ∧ 1 ≤ a ∧ a ≤ T.length ∧ R (tI (wtr T (ix a))) k
def sp_len_Bonds (BC : Addr) : DSp := fun ds k R => ∃ T, ds = [bnd BC T] ∧ T.length ≤ 6 ∧ R (.int T.length) k
def isW (d : D) (w : List Int) : Prop := d = lI w ∨ d = tI w
def sp__law_mixed : DSp := fun ds k R => ∃ a n : Int, ds = [.int a, .int n] ∧ 0 ≤ a ∧ a < 1000000000000000 ∧ 0 ≤ n ∧ n < 1000000000000 ∧ ∀ r, 0 ≤ r → r < 306783377 → R (.int r) k
def sp__law_draw : DSp := fun ds k R => ∃ z : Int, ds = [.int z] ∧ 0 < z ∧ z < 2 ^ 200 ∧ k < 100000000000 ∧ ∀ d, 0 ≤ d → d < z → R (.int d) (k + 1)
def alt (a b : Int) (n : Nat) : List Int := (List.range n).map fun i => if i % 2 = 0 then a else b
end BW
namespace TT
def sm (f : Nat → Int) : Nat → Int
  | 0 => 0
  | n + 1 => sm f n + f n
theorem sm_congr {f g : Nat → Int} : ∀ {n : Nat}, (∀ j, j < n → f j = g j) → sm f n = sm g n
  | 0, _ => rfl
  | n + 1, h => by
    show sm f n + f n = sm g n + g n
    rw [sm_congr (fun j hj => h j (Nat.lt_succ_of_lt hj)), h n (Nat.lt_succ_self n)]
theorem sm_add {f g : Nat → Int} : ∀ {n : Nat}, sm (fun j => f j + g j) n = sm f n + sm g n
  | 0 => rfl
  | n + 1 => by
    show sm (fun j => f j + g j) n + (f n + g n) = (sm f n + f n) + (sm g n + g n)
    rw [sm_add]; omega
theorem sm_mul {f : Nat → Int} {c : Int} : ∀ {n : Nat}, sm (fun j => c * f j) n = c * sm f n
  | 0 => (Int.mul_zero c).symm
  | n + 1 => by
    show sm (fun j => c * f j) n + c * f n = c * (sm f n + f n)
    rw [sm_mul, Int.mul_add]
theorem sm_zero {f : Nat → Int} : ∀ {n : Nat}, (∀ j, j < n → f j = 0) → sm f n = 0
  | 0, _ => rfl
  | n + 1, h => by
    show sm f n + f n = 0
    rw [sm_zero (fun j hj => h j (Nat.lt_succ_of_lt hj)), h n (Nat.lt_succ_self n)]; rfl
theorem sm_one {f : Nat → Int} {b : Nat} : ∀ {n : Nat}, b < n → (∀ j, j < n → j ≠ b → f j = 0) → sm f n = f b
  | 0, h, _ => absurd h (Nat.not_lt_zero b)
  | n + 1, h, z => by
    show sm f n + f n = f b
    by_cases e : b = n
    · subst e
      rw [sm_zero (fun j hj => z j (Nat.lt_succ_of_lt hj) (Nat.ne_of_lt hj)), Int.zero_add]
    · rw [sm_one (by omega) (fun j hj => z j (Nat.lt_succ_of_lt hj)), z n (Nat.lt_succ_self n) (fun q => e q.symm), Int.add_zero]
abbrev Vec := Nat → Int
structure Car (n : Nat) (W : Nat → Nat → Int) : Prop where
  dg : ∀ i, i < n → W i i = -2
  of : ∀ i j, i < n → j < n → i ≠ j → (W i j = 0 ∧ W j i = 0) ∨ (W i j = 1 ∧ W j i = 1) ∨ (W i j = 1 ∧ W j i = 2) ∨ (W i j = 2 ∧ W j i = 1) ∨ (W i j = 1 ∧ W j i = 3) ∨ (W i j = 3 ∧ W j i = 1) ∨ (W i j = 2 ∧ W j i = 2)
def eb (a : Nat) : Vec := fun j => if j = a then 1 else 0
def mv (x : Vec) (t : Int) (b : Nat) : Vec := fun j => if j = b then x j + t else x j
def pr (n : Nat) (W : Nat → Nat → Int) (b : Nat) (x : Vec) : Int := sm (fun a => W b a * x a) n
def sg (n : Nat) (W : Nat → Nat → Int) (b : Nat) (x : Vec) : Vec := mv x (pr n W b x) b
theorem mv_dif {x : Vec} {t : Int} {b j : Nat} : mv x t b j = x j + t * eb b j := by
  unfold mv eb
  by_cases h : j = b
  · rw [if_pos h, if_pos h, Int.mul_one]
  · rw [if_neg h, if_neg h, Int.mul_zero, Int.add_zero]
theorem sm_eb {f : Nat → Int} {b n : Nat} (h : b < n) : sm (fun j => f j * eb b j) n = f b := by
  rw [sm_one h (fun j _ e => by unfold eb; rw [if_neg e, Int.mul_zero])]
  unfold eb
  rw [if_pos rfl, Int.mul_one]
section
variable {n : Nat} {W : Nat → Nat → Int}
theorem pr_mv {c b : Nat} {x : Vec} {t : Int} (hb : b < n) : pr n W c (mv x t b) = pr n W c x + W c b * t := by
  unfold pr
  rw [sm_congr (g := fun a => W c a * x a + t * (W c a * eb b a)) (fun j _ => by rw [mv_dif, Int.mul_add, Int.mul_left_comm]), sm_add, sm_mul, sm_eb hb, Int.mul_comm t]
theorem sm_mv {b : Nat} {x : Vec} {t : Int} (hb : b < n) : sm (mv x t b) n = sm x n + t := by
  rw [sm_congr (g := fun a => x a + t * (1 * eb b a)) (fun j _ => by rw [mv_dif, Int.one_mul]), sm_add, sm_mul, sm_eb (f := fun _ => 1) hb, Int.mul_one]
theorem pr_eb {a b : Nat} (ha : a < n) : pr n W b (eb a) = W b a := sm_eb ha
theorem mv_mv {x : Vec} {s t : Int} {b : Nat} : mv (mv x s b) t b = mv x (s + t) b := by
  funext j
  unfold mv
  by_cases h : j = b
  · rw [if_pos h, if_pos h, if_pos h, Int.add_assoc]
  · rw [if_neg h, if_neg h, if_neg h]
theorem mv_zero {x : Vec} {b : Nat} : mv x 0 b = x := by
  funext j
  unfold mv
  by_cases h : j = b
  · rw [if_pos h, Int.add_zero]
  · rw [if_neg h]
theorem mv_comm {x : Vec} {s t : Int} {b c : Nat} (h : b ≠ c) : mv (mv x s b) t c = mv (mv x t c) s b := by
  funext j
  unfold mv
  by_cases h1 : j = b
  · subst h1
    rw [if_neg h, if_pos rfl, if_pos rfl, if_neg h]
  · by_cases h2 : j = c
    · subst h2
      rw [if_pos rfl, if_neg h1, if_neg h1, if_pos rfl]
    · rw [if_neg h2, if_neg h1, if_neg h1, if_neg h2]
theorem sg_sg (C : Car n W) {b : Nat} {x : Vec} (hb : b < n) : sg n W b (sg n W b x) = x := by
  unfold sg
  rw [pr_mv hb, C.dg b hb, mv_mv]
  rw [show pr n W b x + (pr n W b x + -2 * pr n W b x) = 0 by omega, mv_zero]
theorem pr_sg (C : Car n W) {b : Nat} {x : Vec} (hb : b < n) : pr n W b (sg n W b x) = - pr n W b x := by
  unfold sg
  rw [pr_mv hb, C.dg b hb]
  omega
inductive Pos (n : Nat) (W : Nat → Nat → Int) : Vec → Prop
  | eb {a : Nat} : a < n → Pos n W (eb a)
  | up {x : Vec} {b : Nat} : Pos n W x → b < n → 0 < pr n W b x → Pos n W (sg n W b x)
theorem Pos.nn {x : Vec} (h : Pos n W x) : ∀ j, 0 ≤ x j := by
  induction h with
  | eb ha => intro j; unfold TT.eb; split <;> decide
  | up h hb hp ih =>
    intro j
    have := ih j
    unfold sg mv
    split <;> omega
theorem Pos.ht {x : Vec} (h : Pos n W x) : 1 ≤ sm x n := by
  induction h with
  | eb ha =>
    rename_i a
    have : sm (TT.eb a) n = 1 := by
      have := sm_eb (f := fun _ => (1 : Int)) ha
      simpa using this
    omega
  | up h hb hp ih =>
    unfold sg
    rw [sm_mv hb]
    omega
end
theorem r2_00 {A Eb : Int → Int → Prop} {P Q : Int} (hP : P < 0) (hQ : Q < 0) (R1 : ∀ s t s', A s t → s + t < 0 → P - 2 * s + 0 * t < 0 → s' = s + (P - 2 * s + 0 * t) → (P - 2 * s + 0 * t = -2 ∧ Q + 0 * s - 2 * t = 0 ∧ Eb s t) ∨ A s' t)
    (R2 : ∀ s t t', A s t → s + t < 0 → Q + 0 * s - 2 * t < 0 → t' = t + (Q + 0 * s - 2 * t) → (Q + 0 * s - 2 * t = -2 ∧ P - 2 * s + 0 * t = 0) ∨ A s t') (U1 : ∀ s t s', A s t → 0 < P - 2 * s + 0 * t → s' = s + (P - 2 * s + 0 * t) → A s' t) (U2 : ∀ s t t', A s t → 0 < Q + 0 * s - 2 * t → t' = t + (Q + 0 * s - 2 * t) → A s t') (A0 : A 0 Q) : A P 0 := by
  have h0 : A (0 * P + 0 * Q) (0 * P + 1 * Q) := by rw [show (0 * P + 0 * Q) = (0 : Int) by omega, show (0 * P + 1 * Q) = Q by omega]; exact A0
  rcases R1 (0 * P + 0 * Q) (0 * P + 1 * Q) (1 * P + 0 * Q) h0 (by omega) (by omega) (by omega) with ⟨_, _, _⟩ | h1
  · omega
  have h2 := U2 (1 * P + 0 * Q) (0 * P + 1 * Q) (0 * P + 0 * Q) h1 (by omega) (by omega)
  rw [show (1 * P + 0 * Q) = P by omega, show (0 * P + 0 * Q) = (0 : Int) by omega] at h2
  exact h2
theorem r2_11 {A Eb : Int → Int → Prop} {P Q : Int} (hP : P < 0) (hQ : Q < 0) (R1 : ∀ s t s', A s t → s + t < 0 → P - 2 * s + 1 * t < 0 → s' = s + (P - 2 * s + 1 * t) → (P - 2 * s + 1 * t = -2 ∧ Q + 1 * s - 2 * t = 1 ∧ Eb s t) ∨ A s' t)
    (R2 : ∀ s t t', A s t → s + t < 0 → Q + 1 * s - 2 * t < 0 → t' = t + (Q + 1 * s - 2 * t) → (Q + 1 * s - 2 * t = -2 ∧ P - 2 * s + 1 * t = 1) ∨ A s t') (U1 : ∀ s t s', A s t → 0 < P - 2 * s + 1 * t → s' = s + (P - 2 * s + 1 * t) → A s' t) (U2 : ∀ s t t', A s t → 0 < Q + 1 * s - 2 * t → t' = t + (Q + 1 * s - 2 * t) → A s t') (A0 : A 0 Q) (X : Eb 0 Q → A P 0) : A P 0 := by
  have h0 : A (0 * P + 0 * Q) (0 * P + 1 * Q) := by rw [show (0 * P + 0 * Q) = (0 : Int) by omega, show (0 * P + 1 * Q) = Q by omega]; exact A0
  rcases R1 (0 * P + 0 * Q) (0 * P + 1 * Q) (1 * P + 1 * Q) h0 (by omega) (by omega) (by omega) with ⟨_, _, e⟩ | h1
  · rw [show (0 * P + 0 * Q) = (0 : Int) by omega, show (0 * P + 1 * Q) = Q by omega] at e; exact X e
  rcases R2 (1 * P + 1 * Q) (0 * P + 1 * Q) (1 * P + 1 * Q) h1 (by omega) (by omega) (by omega) with ⟨_, _⟩ | h2
  · omega
  have h3 := U1 (1 * P + 1 * Q) (1 * P + 1 * Q) (1 * P + 0 * Q) h2 (by omega) (by omega)
  have h4 := U2 (1 * P + 0 * Q) (1 * P + 1 * Q) (0 * P + 0 * Q) h3 (by omega) (by omega)
  rw [show (1 * P + 0 * Q) = P by omega, show (0 * P + 0 * Q) = (0 : Int) by omega] at h4
  exact h4
theorem r2_12 {A Eb : Int → Int → Prop} {P Q : Int} (hP : P < 0) (hQ : Q < 0) (R1 : ∀ s t s', A s t → s + t < 0 → P - 2 * s + 1 * t < 0 → s' = s + (P - 2 * s + 1 * t) → (P - 2 * s + 1 * t = -2 ∧ Q + 2 * s - 2 * t = 2 ∧ Eb s t) ∨ A s' t)
    (R2 : ∀ s t t', A s t → s + t < 0 → Q + 2 * s - 2 * t < 0 → t' = t + (Q + 2 * s - 2 * t) → (Q + 2 * s - 2 * t = -2 ∧ P - 2 * s + 1 * t = 1) ∨ A s t') (U1 : ∀ s t s', A s t → 0 < P - 2 * s + 1 * t → s' = s + (P - 2 * s + 1 * t) → A s' t) (U2 : ∀ s t t', A s t → 0 < Q + 2 * s - 2 * t → t' = t + (Q + 2 * s - 2 * t) → A s t') (A0 : A 0 Q) : A P 0 := by
  have h0 : A (0 * P + 0 * Q) (0 * P + 1 * Q) := by rw [show (0 * P + 0 * Q) = (0 : Int) by omega, show (0 * P + 1 * Q) = Q by omega]; exact A0
  rcases R1 (0 * P + 0 * Q) (0 * P + 1 * Q) (1 * P + 1 * Q) h0 (by omega) (by omega) (by omega) with ⟨_, _, _⟩ | h1
  · omega
  rcases R2 (1 * P + 1 * Q) (0 * P + 1 * Q) (2 * P + 2 * Q) h1 (by omega) (by omega) (by omega) with ⟨_, _⟩ | h2
  · omega
  rcases R1 (1 * P + 1 * Q) (2 * P + 2 * Q) (2 * P + 1 * Q) h2 (by omega) (by omega) (by omega) with ⟨_, _, _⟩ | h3
  · omega
  have h4 := U2 (2 * P + 1 * Q) (2 * P + 2 * Q) (2 * P + 1 * Q) h3 (by omega) (by omega)
  have h5 := U1 (2 * P + 1 * Q) (2 * P + 1 * Q) (1 * P + 0 * Q) h4 (by omega) (by omega)
  have h6 := U2 (1 * P + 0 * Q) (2 * P + 1 * Q) (0 * P + 0 * Q) h5 (by omega) (by omega)
  rw [show (1 * P + 0 * Q) = P by omega, show (0 * P + 0 * Q) = (0 : Int) by omega] at h6
  exact h6
theorem r2_21 {A Eb : Int → Int → Prop} {P Q : Int} (hP : P < 0) (hQ : Q < 0) (R1 : ∀ s t s', A s t → s + t < 0 → P - 2 * s + 2 * t < 0 → s' = s + (P - 2 * s + 2 * t) → (P - 2 * s + 2 * t = -2 ∧ Q + 1 * s - 2 * t = 1 ∧ Eb s t) ∨ A s' t)
    (R2 : ∀ s t t', A s t → s + t < 0 → Q + 1 * s - 2 * t < 0 → t' = t + (Q + 1 * s - 2 * t) → (Q + 1 * s - 2 * t = -2 ∧ P - 2 * s + 2 * t = 2) ∨ A s t') (U1 : ∀ s t s', A s t → 0 < P - 2 * s + 2 * t → s' = s + (P - 2 * s + 2 * t) → A s' t) (U2 : ∀ s t t', A s t → 0 < Q + 1 * s - 2 * t → t' = t + (Q + 1 * s - 2 * t) → A s t') (A0 : A 0 Q) : A P 0 := by
  have h0 : A (0 * P + 0 * Q) (0 * P + 1 * Q) := by rw [show (0 * P + 0 * Q) = (0 : Int) by omega, show (0 * P + 1 * Q) = Q by omega]; exact A0
  rcases R1 (0 * P + 0 * Q) (0 * P + 1 * Q) (1 * P + 2 * Q) h0 (by omega) (by omega) (by omega) with ⟨_, _, _⟩ | h1
  · omega
  rcases R2 (1 * P + 2 * Q) (0 * P + 1 * Q) (1 * P + 2 * Q) h1 (by omega) (by omega) (by omega) with ⟨_, _⟩ | h2
  · omega
  rcases R1 (1 * P + 2 * Q) (1 * P + 2 * Q) (2 * P + 2 * Q) h2 (by omega) (by omega) (by omega) with ⟨_, _, _⟩ | h3
  · omega
  have h4 := U2 (2 * P + 2 * Q) (1 * P + 2 * Q) (1 * P + 1 * Q) h3 (by omega) (by omega)
  have h5 := U1 (2 * P + 2 * Q) (1 * P + 1 * Q) (1 * P + 0 * Q) h4 (by omega) (by omega)
  have h6 := U2 (1 * P + 0 * Q) (1 * P + 1 * Q) (0 * P + 0 * Q) h5 (by omega) (by omega)
  rw [show (1 * P + 0 * Q) = P by omega, show (0 * P + 0 * Q) = (0 : Int) by omega] at h6
  exact h6
theorem r2_13 {A Eb : Int → Int → Prop} {P Q : Int} (hP : P < 0) (hQ : Q < 0) (R1 : ∀ s t s', A s t → s + t < 0 → P - 2 * s + 1 * t < 0 → s' = s + (P - 2 * s + 1 * t) → (P - 2 * s + 1 * t = -2 ∧ Q + 3 * s - 2 * t = 3 ∧ Eb s t) ∨ A s' t)
    (R2 : ∀ s t t', A s t → s + t < 0 → Q + 3 * s - 2 * t < 0 → t' = t + (Q + 3 * s - 2 * t) → (Q + 3 * s - 2 * t = -2 ∧ P - 2 * s + 1 * t = 1) ∨ A s t') (U1 : ∀ s t s', A s t → 0 < P - 2 * s + 1 * t → s' = s + (P - 2 * s + 1 * t) → A s' t) (U2 : ∀ s t t', A s t → 0 < Q + 3 * s - 2 * t → t' = t + (Q + 3 * s - 2 * t) → A s t') (A0 : A 0 Q) : A P 0 := by
  have h0 : A (0 * P + 0 * Q) (0 * P + 1 * Q) := by rw [show (0 * P + 0 * Q) = (0 : Int) by omega, show (0 * P + 1 * Q) = Q by omega]; exact A0
  rcases R1 (0 * P + 0 * Q) (0 * P + 1 * Q) (1 * P + 1 * Q) h0 (by omega) (by omega) (by omega) with ⟨_, _, _⟩ | h1
  · omega
  rcases R2 (1 * P + 1 * Q) (0 * P + 1 * Q) (3 * P + 3 * Q) h1 (by omega) (by omega) (by omega) with ⟨_, _⟩ | h2
  · omega
  rcases R1 (1 * P + 1 * Q) (3 * P + 3 * Q) (3 * P + 2 * Q) h2 (by omega) (by omega) (by omega) with ⟨_, _, _⟩ | h3
  · omega
  rcases R2 (3 * P + 2 * Q) (3 * P + 3 * Q) (6 * P + 4 * Q) h3 (by omega) (by omega) (by omega) with ⟨_, _⟩ | h4
  · omega
  rcases R1 (3 * P + 2 * Q) (6 * P + 4 * Q) (4 * P + 2 * Q) h4 (by omega) (by omega) (by omega) with ⟨_, _, _⟩ | h5
  · omega
  have h6 := U2 (4 * P + 2 * Q) (6 * P + 4 * Q) (6 * P + 3 * Q) h5 (by omega) (by omega)
  have h7 := U1 (4 * P + 2 * Q) (6 * P + 3 * Q) (3 * P + 1 * Q) h6 (by omega) (by omega)
  have h8 := U2 (3 * P + 1 * Q) (6 * P + 3 * Q) (3 * P + 1 * Q) h7 (by omega) (by omega)
  have h9 := U1 (3 * P + 1 * Q) (3 * P + 1 * Q) (1 * P + 0 * Q) h8 (by omega) (by omega)
  have h10 := U2 (1 * P + 0 * Q) (3 * P + 1 * Q) (0 * P + 0 * Q) h9 (by omega) (by omega)
  rw [show (1 * P + 0 * Q) = P by omega, show (0 * P + 0 * Q) = (0 : Int) by omega] at h10
  exact h10
theorem r2_31 {A Eb : Int → Int → Prop} {P Q : Int} (hP : P < 0) (hQ : Q < 0) (R1 : ∀ s t s', A s t → s + t < 0 → P - 2 * s + 3 * t < 0 → s' = s + (P - 2 * s + 3 * t) → (P - 2 * s + 3 * t = -2 ∧ Q + 1 * s - 2 * t = 1 ∧ Eb s t) ∨ A s' t)
    (R2 : ∀ s t t', A s t → s + t < 0 → Q + 1 * s - 2 * t < 0 → t' = t + (Q + 1 * s - 2 * t) → (Q + 1 * s - 2 * t = -2 ∧ P - 2 * s + 3 * t = 3) ∨ A s t') (U1 : ∀ s t s', A s t → 0 < P - 2 * s + 3 * t → s' = s + (P - 2 * s + 3 * t) → A s' t) (U2 : ∀ s t t', A s t → 0 < Q + 1 * s - 2 * t → t' = t + (Q + 1 * s - 2 * t) → A s t') (A0 : A 0 Q) : A P 0 := by
  have h0 : A (0 * P + 0 * Q) (0 * P + 1 * Q) := by rw [show (0 * P + 0 * Q) = (0 : Int) by omega, show (0 * P + 1 * Q) = Q by omega]; exact A0
  rcases R1 (0 * P + 0 * Q) (0 * P + 1 * Q) (1 * P + 3 * Q) h0 (by omega) (by omega) (by omega) with ⟨_, _, _⟩ | h1
  · omega
  rcases R2 (1 * P + 3 * Q) (0 * P + 1 * Q) (1 * P + 3 * Q) h1 (by omega) (by omega) (by omega) with ⟨_, _⟩ | h2
  · omega
  rcases R1 (1 * P + 3 * Q) (1 * P + 3 * Q) (3 * P + 6 * Q) h2 (by omega) (by omega) (by omega) with ⟨_, _, _⟩ | h3
  · omega
  rcases R2 (3 * P + 6 * Q) (1 * P + 3 * Q) (2 * P + 4 * Q) h3 (by omega) (by omega) (by omega) with ⟨_, _⟩ | h4
  · omega
  rcases R1 (3 * P + 6 * Q) (2 * P + 4 * Q) (4 * P + 6 * Q) h4 (by omega) (by omega) (by omega) with ⟨_, _, _⟩ | h5
  · omega
  have h6 := U2 (4 * P + 6 * Q) (2 * P + 4 * Q) (2 * P + 3 * Q) h5 (by omega) (by omega)
  have h7 := U1 (4 * P + 6 * Q) (2 * P + 3 * Q) (3 * P + 3 * Q) h6 (by omega) (by omega)
  have h8 := U2 (3 * P + 3 * Q) (2 * P + 3 * Q) (1 * P + 1 * Q) h7 (by omega) (by omega)
  have h9 := U1 (3 * P + 3 * Q) (1 * P + 1 * Q) (1 * P + 0 * Q) h8 (by omega) (by omega)
  have h10 := U2 (1 * P + 0 * Q) (1 * P + 1 * Q) (0 * P + 0 * Q) h9 (by omega) (by omega)
  rw [show (1 * P + 0 * Q) = P by omega, show (0 * P + 0 * Q) = (0 : Int) by omega] at h10
  exact h10
section
variable {n : Nat} {W : Nat → Nat → Int}
theorem W_nn (C : Car n W) {a b : Nat} (ha : a < n) (hb : b < n) (h : a ≠ b) : 0 ≤ W a b := by
  rcases C.of a b ha hb h with h | h | h | h | h | h | h <;> omega
theorem no_inf (C : Car n W) {b c : Nat} (hb : b < n) (hc : c < n) (hbc : W b c = 2) (hcb : W c b = 2) {N : Nat} (IH : ∀ x, Pos n W x → sm x n < N → ∀ b, b < n → x = eb b ∨ Pos n W (sg n W b x)) :
    ∀ (k : Nat) (z : Vec), Pos n W z → sm z n < N → sm z n < k → pr n W b z + pr n W c z < 0 → False
  | 0, z, hz, _, hk, _ => by have := hz.ht; omega
  | k + 1, z, hz, hN, hk, hs => by
    by_cases h : pr n W b z < 0
    · rcases IH z hz hN b hb with e | h2
      · rw [e, pr_eb hb, pr_eb hb, C.dg b hb, hcb] at hs
        omega
      · refine no_inf C hb hc hbc hcb IH k _ h2 ?_ ?_ ?_
        · unfold sg; rw [sm_mv hb]; omega
        · unfold sg; rw [sm_mv hb]; omega
        · rw [pr_sg C hb]
          unfold sg
          rw [pr_mv hb, hcb]
          omega
    · have h : pr n W c z < 0 := by omega
      rcases IH z hz hN c hc with e | h2
      · rw [e, pr_eb hc, pr_eb hc, C.dg c hc, hbc] at hs
        omega
      · refine no_inf C hb hc hbc hcb IH k _ h2 ?_ ?_ ?_
        · unfold sg; rw [sm_mv hc]; omega
        · unfold sg; rw [sm_mv hc]; omega
        · rw [pr_sg C hc]
          unfold sg
          rw [pr_mv hc, hbc]
          omega
abbrev VV (x : Vec) (b c : Nat) (s t : Int) : Vec := mv (mv x s b) t c
theorem pos_sg (C : Car n W) : ∀ (N : Nat) (x : Vec), Pos n W x → sm x n < N → ∀ b, b < n → x = eb b ∨ Pos n W (sg n W b x)
  | 0, x, hx, h, _, _ => by have := hx.ht; omega
  | N + 1, x, hx, hN, b, hb => by
    by_cases p1 : 0 < pr n W b x
    · exact .inr (.up hx hb p1)
    by_cases p2 : pr n W b x = 0
    · right
      unfold sg
      rw [p2, mv_zero]
      exact hx
    have hP : pr n W b x < 0 := by omega
    cases hx with
    | eb ha =>
      rename_i a
      rw [pr_eb ha] at hP
      by_cases e : b = a
      · exact .inl (by rw [e])
      · have := W_nn C hb ha e
        omega
    | up hy hc hq =>
      rename_i y c
      by_cases e : c = b
      · subst e
        right
        rw [sg_sg C hc]
        exact hy
      · have hx : Pos n W (sg n W c y) := .up hy hc hq
        have ey : y = sg n W c (sg n W c y) := (sg_sg C hc).symm
        have hQ : pr n W c (sg n W c y) < 0 := by rw [pr_sg C hc]; omega
        have hyx : sm y n < sm (sg n W c y) n := by unfold sg; rw [sm_mv hc]; omega
        rw [ey] at hy
        rw [ey] at hyx
        rw [sg_sg C hc] at hyx
        clear hq
        generalize hX : sg n W c y = x at *
        clear hX ey
        generalize hPP : pr n W b x = P at *
        generalize hQQ : pr n W c x = Q at *
        have IH := pos_sg C N
        right
        have nbc : b ≠ c := fun z => e z.symm
        have ne : c ≠ b := e
        have hV : ∀ s t, pr n W b (VV x b c s t) = P - 2 * s + W b c * t := fun s t => by
          rw [pr_mv hc, pr_mv hb, C.dg b hb, hPP]; omega
        have hW : ∀ s t, pr n W c (VV x b c s t) = Q + W c b * s - 2 * t := fun s t => by
          rw [pr_mv hc, pr_mv hb, C.dg c hc, hQQ]; omega
        have hS : ∀ s t, sm (VV x b c s t) n = sm x n + s + t := fun s t => by rw [sm_mv hc, sm_mv hb]
        have hB : ∀ s t, sg n W b (VV x b c s t) = VV x b c (s + (P - 2 * s + W b c * t)) t := fun s t => by
          unfold sg
          rw [hV, mv_comm ne, mv_mv]
        have hC : ∀ s t, sg n W c (VV x b c s t) = VV x b c s (t + (Q + W c b * s - 2 * t)) := fun s t => by
          unfold sg
          rw [hW, mv_mv]
        have e0 : sg n W c x = VV x b c 0 Q := by
          show mv x _ c = mv (mv x 0 b) Q c
          rw [mv_zero, hQQ]
        have e1 : sg n W b x = VV x b c P 0 := by
          show mv x _ b = mv (mv x P b) 0 c
          rw [mv_zero, hPP]
        rw [e0] at hy
        rw [e1]
        have R1 : ∀ s t s', Pos n W (VV x b c s t) → s + t < 0 → P - 2 * s + W b c * t < 0 → s' = s + (P - 2 * s + W b c * t) → (P - 2 * s + W b c * t = -2 ∧ Q + W c b * s - 2 * t = W c b ∧ VV x b c s t = eb b) ∨ Pos n W (VV x b c s' t) := fun s t s' h1 h2 h3 h4 => by
          rcases IH _ h1 (by rw [hS]; omega) b hb with h | h
          · left
            refine ⟨?_, ?_, h⟩
            · rw [← hV, h, pr_eb hb, C.dg b hb]
            · rw [← hW, h, pr_eb hb]
          · right
            rw [hB] at h
            rw [h4]
            exact h
        have R2 : ∀ s t t', Pos n W (VV x b c s t) → s + t < 0 → Q + W c b * s - 2 * t < 0 → t' = t + (Q + W c b * s - 2 * t) → (Q + W c b * s - 2 * t = -2 ∧ P - 2 * s + W b c * t = W b c) ∨ Pos n W (VV x b c s t') := fun s t t' h1 h2 h3 h4 => by
          rcases IH _ h1 (by rw [hS]; omega) c hc with h | h
          · left
            refine ⟨?_, ?_⟩
            · rw [← hW, h, pr_eb hc, C.dg c hc]
            · rw [← hV, h, pr_eb hc]
          · right
            rw [hC] at h
            rw [h4]
            exact h
        have U1 : ∀ s t s', Pos n W (VV x b c s t) → 0 < P - 2 * s + W b c * t → s' = s + (P - 2 * s + W b c * t) → Pos n W (VV x b c s' t) := fun s t s' h1 h2 h3 => by
          have := Pos.up h1 hb (by rw [hV]; exact h2)
          rw [hB] at this
          rw [h3]
          exact this
        have U2 : ∀ s t t', Pos n W (VV x b c s t) → 0 < Q + W c b * s - 2 * t → t' = t + (Q + W c b * s - 2 * t) → Pos n W (VV x b c s t') := fun s t t' h1 h2 h3 => by
          have := Pos.up h1 hc (by rw [hW]; exact h2)
          rw [hC] at this
          rw [h3]
          exact this
        rcases C.of b c hb hc nbc with ⟨u, v⟩ | ⟨u, v⟩ | ⟨u, v⟩ | ⟨u, v⟩ | ⟨u, v⟩ | ⟨u, v⟩ | ⟨u, v⟩
        · rw [u] at R1 R2 U1; rw [v] at R1 R2 U2; exact r2_00 (A := fun s t => Pos n W (VV x b c s t)) hP hQ R1 R2 U1 U2 hy
        · rw [u] at R1 R2 U1; rw [v] at R1 R2 U2
          refine r2_11 (A := fun s t => Pos n W (VV x b c s t)) hP hQ R1 R2 U1 U2 hy fun h => ?_
          have hv := hV 0 Q
          have hw := hW 0 Q
          rw [h, pr_eb hb, C.dg b hb, u] at hv
          rw [h, pr_eb hb, v] at hw
          have ec : VV x b c P 0 = eb c := by
            funext j
            have hj := congrFun h j
            unfold VV mv eb at hj
            unfold VV mv eb
            by_cases j1 : j = b
            · subst j1
              rw [if_neg nbc, if_pos rfl, if_pos rfl] at hj
              rw [if_neg nbc, if_pos rfl, if_neg nbc]
              omega
            · by_cases j2 : j = c
              · subst j2
                rw [if_pos rfl, if_neg ne, if_neg ne] at hj
                rw [if_pos rfl, if_neg ne, if_pos rfl]
                omega
              · rw [if_neg j2, if_neg j1, if_neg j1] at hj
                rw [if_neg j2, if_neg j1, if_neg j2]
                exact hj
          show Pos n W (VV x b c P 0)
          rw [ec]
          exact .eb hc
        · rw [u] at R1 R2 U1; rw [v] at R1 R2 U2; exact r2_12 (A := fun s t => Pos n W (VV x b c s t)) hP hQ R1 R2 U1 U2 hy
        · rw [u] at R1 R2 U1; rw [v] at R1 R2 U2; exact r2_21 (A := fun s t => Pos n W (VV x b c s t)) hP hQ R1 R2 U1 U2 hy
        · rw [u] at R1 R2 U1; rw [v] at R1 R2 U2; exact r2_13 (A := fun s t => Pos n W (VV x b c s t)) hP hQ R1 R2 U1 U2 hy
        · rw [u] at R1 R2 U1; rw [v] at R1 R2 U2; exact r2_31 (A := fun s t => Pos n W (VV x b c s t)) hP hQ R1 R2 U1 U2 hy
        · refine (no_inf C hb hc u v IH N _ hy ?_ ?_ ?_).elim
          · rw [hS]; omega
          · rw [hS]; omega
          · rw [hV, hW, u, v]; omega
end
end TT
namespace TT
def lc (x : Vec) (t : Int) (y : Vec) : Vec := fun j => x j + t * y j
def zv : Vec := fun _ => 0
def neg (x : Vec) : Vec := lc zv (-1) x
theorem neg_at {x : Vec} {j : Nat} : neg x j = - x j := by unfold neg lc zv; omega
theorem neg_neg {x : Vec} : neg (neg x) = x := by funext j; rw [neg_at, neg_at]; omega
theorem mv_lc {x : Vec} {t : Int} {b : Nat} : mv x t b = lc x t (eb b) := by funext j; exact mv_dif
section
variable {n : Nat} {W : Nat → Nat → Int}
theorem sm_lc {x y : Vec} {t : Int} : sm (lc x t y) n = sm x n + t * sm y n := by
  show sm (fun j => x j + t * y j) n = _
  rw [sm_add, sm_mul]
theorem pr_lc {b : Nat} {x y : Vec} {t : Int} : pr n W b (lc x t y) = pr n W b x + t * pr n W b y := by
  unfold pr lc
  rw [sm_congr (g := fun a => W b a * x a + t * (W b a * y a)) (fun j _ => by rw [Int.mul_add, Int.mul_left_comm]), sm_add, sm_mul]
theorem sg_lc {b : Nat} {x y : Vec} {t : Int} : sg n W b (lc x t y) = lc (sg n W b x) t (sg n W b y) := by
  funext j
  unfold sg
  rw [pr_lc]
  unfold mv lc
  dsimp only
  by_cases h : j = b
  · rw [if_pos h, if_pos h, if_pos h, Int.mul_add]; omega
  · rw [if_neg h, if_neg h, if_neg h]
def act (n : Nat) (W : Nat → Nat → Int) (w : List Nat) (x : Vec) : Vec := w.foldr (sg n W) x
def lets (n : Nat) (w : List Nat) : Prop := ∀ a ∈ w, a < n
theorem act_app {u v : List Nat} {x : Vec} : act n W (u ++ v) x = act n W u (act n W v x) := by unfold act; rw [List.foldr_append]
theorem act_lc {x y : Vec} {t : Int} : ∀ {w : List Nat}, act n W w (lc x t y) = lc (act n W w x) t (act n W w y)
  | [] => rfl
  | b :: w => by
    show sg n W b (act n W w _) = _
    rw [act_lc, sg_lc]; rfl
theorem lc_zz {t : Int} : lc zv t zv = zv := by funext j; unfold lc zv; omega
theorem sg_zv {b : Nat} : sg n W b zv = zv := by
  unfold sg
  rw [show pr n W b zv = 0 from sm_zero fun j _ => by unfold zv; omega, mv_zero]
theorem act_zv : ∀ {w : List Nat}, act n W w zv = zv
  | [] => rfl
  | b :: w => by
    show sg n W b (act n W w zv) = zv
    rw [act_zv, sg_zv]
theorem act_neg {w : List Nat} {x : Vec} : act n W w (neg x) = neg (act n W w x) := by
  unfold neg
  rw [act_lc, act_zv]
theorem sg_neg {b : Nat} {x : Vec} : sg n W b (neg x) = neg (sg n W b x) := act_neg (w := [b])
theorem sg_eb (C : Car n W) {b : Nat} (hb : b < n) : sg n W b (eb b) = neg (eb b) := by
  funext j
  unfold sg
  rw [pr_eb hb, C.dg b hb, mv_dif, neg_at]
  omega
def supp (n : Nat) (x : Vec) : Prop := ∀ j, n ≤ j → x j = 0
theorem supp_eb {a : Nat} (h : a < n) : supp n (eb a) := fun j hj => by unfold eb; rw [if_neg (by omega)]
theorem supp_sg {b : Nat} {x : Vec} (hb : b < n) (h : supp n x) : supp n (sg n W b x) := fun j hj => by
  unfold sg mv
  rw [if_neg (by omega)]
  exact h j hj
theorem supp_act {x : Vec} (h : supp n x) : ∀ {w : List Nat}, lets n w → supp n (act n W w x)
  | [], _ => h
  | b :: w, l => supp_sg (l b List.mem_cons_self) (supp_act h fun a ha => l a (List.mem_cons_of_mem _ ha))
theorem lets_app {u v : List Nat} : lets n (u ++ v) ↔ lets n u ∧ lets n v := by
  unfold lets
  constructor
  · exact fun h => ⟨fun a ha => h a (List.mem_append_left _ ha), fun a ha => h a (List.mem_append_right _ ha)⟩
  · exact fun h a ha => (List.mem_append.mp ha).elim (h.1 a) (h.2 a)
theorem lets_rev {u : List Nat} : lets n u.reverse ↔ lets n u := by
  unfold lets
  constructor
  · exact fun h a ha => h a (List.mem_reverse.mpr ha)
  · exact fun h a ha => h a (List.mem_reverse.mp ha)
theorem act_rev (C : Car n W) {x : Vec} : ∀ {w : List Nat}, lets n w → act n W w.reverse (act n W w x) = x
  | [], _ => rfl
  | b :: w, l => by
    rw [List.reverse_cons, act_app]
    show act n W w.reverse (sg n W b (sg n W b (act n W w x))) = x
    rw [sg_sg C (l b List.mem_cons_self)]
    exact act_rev C fun a ha => l a (List.mem_cons_of_mem _ ha)
theorem act_rev2 (C : Car n W) {x : Vec} {w : List Nat} (l : lets n w) : act n W w (act n W w.reverse x) = x := by
  have := act_rev C (x := x) (w := w.reverse) (lets_rev.mpr l)
  rw [List.reverse_reverse] at this
  exact this
theorem pos_sg1 (C : Car n W) {x : Vec} (h : Pos n W x) {b : Nat} (hb : b < n) : x = eb b ∨ Pos n W (sg n W b x) := pos_sg C ((sm x n).toNat + 1) x h (by omega) b hb
theorem sm_neg {x : Vec} : sm (neg x) n = - sm x n := by
  unfold neg
  rw [sm_lc, show sm zv n = 0 from sm_zero fun _ _ => rfl]
  omega
theorem not_both {x : Vec} (h : Pos n W x) (h2 : Pos n W (neg x)) : False := by
  have := h.ht
  have := h2.ht
  rw [sm_neg] at this
  omega
theorem sp_act (C : Car n W) {a : Nat} (ha : a < n) : ∀ {w : List Nat}, lets n w → Pos n W (act n W w (eb a)) ∨ Pos n W (neg (act n W w (eb a)))
  | [], _ => .inl (.eb ha)
  | b :: w, l => by
    have hb := l b List.mem_cons_self
    show Pos n W (sg n W b (act n W w (eb a))) ∨ Pos n W (neg (sg n W b (act n W w (eb a))))
    rcases sp_act C ha (w := w) fun a ha => l a (List.mem_cons_of_mem _ ha) with h | h
    · rcases pos_sg1 C h hb with e | h
      · rw [e, sg_eb C hb, neg_neg]
        exact .inr (.eb hb)
      · exact .inl h
    · rw [← sg_neg]
      rcases pos_sg1 C h hb with e | h
      · have e2 : act n W w (eb a) = neg (eb b) := by rw [← e, neg_neg]
        rw [e2, sg_neg, sg_eb C hb, neg_neg]
        exact .inl (.eb hb)
      · exact .inr h
theorem exch (C : Car n W) {a : Nat} (ha : a < n) : ∀ {w : List Nat}, lets n w → Pos n W (neg (act n W w (eb a))) → ∃ u b v, w = u ++ b :: v ∧ act n W v (eb a) = eb b
  | [], _, h => by
    have := h.nn a
    rw [neg_at] at this
    have e : act n W [] (eb a) a = 1 := by show eb a a = 1; unfold eb; rw [if_pos rfl]
    omega
  | b :: w, l, h => by
    have hb := l b List.mem_cons_self
    have lw : lets n w := fun a ha => l a (List.mem_cons_of_mem _ ha)
    rcases sp_act C ha lw with h1 | h1
    · rcases pos_sg1 C h1 hb with e | h2
      · exact ⟨[], b, w, rfl, e⟩
      · exact (not_both h2 h).elim
    · obtain ⟨u, b', v, e, e2⟩ := exch C ha lw h1
      exact ⟨b :: u, b', v, by rw [e]; rfl, e2⟩
theorem lin_ext {F : Vec → Int} (hl : ∀ x t y, F (lc x t y) = F x + t * F y) (he : ∀ c, c < n → F (eb c) = 0) : ∀ (m : Nat), m ≤ n → ∀ x : Vec, (∀ j, m ≤ j → x j = 0) → F x = 0
  | 0, _, x, h => by
    have e : x = zv := by funext j; exact h j (Nat.zero_le j)
    have := hl zv (-1) zv
    rw [lc_zz] at this
    rw [e]
    omega
  | m + 1, hm, x, h => by
    have e : x = lc (fun j => if j = m then 0 else x j) (x m) (eb m) := by
      funext j
      unfold lc eb
      dsimp only
      by_cases q : j = m
      · subst q
        rw [if_pos rfl, if_pos rfl]; omega
      · rw [if_neg q, if_neg q]; omega
    rw [e, hl, he m (by omega), lin_ext hl he m (by omega) (fun j => if j = m then 0 else x j) fun j hj => ?_]
    · omega
    · by_cases q : j = m
      · rw [if_pos q]
      · rw [if_neg q]
        exact h j (by omega)
theorem lin_eq {F G : Vec → Int} (hF : ∀ x t y, F (lc x t y) = F x + t * F y) (hG : ∀ x t y, G (lc x t y) = G x + t * G y) (he : ∀ c, c < n → F (eb c) = G (eb c)) {x : Vec} (hx : supp n x) : F x = G x := by
  have := lin_ext (n := n) (F := fun x => F x - G x) (fun x t y => by rw [hF, hG, Int.mul_sub]; omega) (fun c hc => by rw [he c hc]; omega) n (Nat.le_refl n) x hx
  omega
theorem conj (C : Car n W) {v : List Nat} {a b : Nat} (ha : a < n) (hb : b < n) (l : lets n v) (h : act n W v (eb a) = eb b) {x : Vec} (hx : supp n x) : sg n W b (act n W v (sg n W a x)) = act n W v x := by
  have sga : ∀ y, sg n W a y = lc y (pr n W a y) (eb a) := fun y => mv_lc
  have sgb : ∀ y, sg n W b y = lc y (pr n W b y) (eb b) := fun y => mv_lc
  have lr := lets_rev.mpr l
  have gx : ∀ y, act n W v (sg n W a (act n W v.reverse y)) = lc y (pr n W a (act n W v.reverse y)) (eb b) := fun y => by
    rw [sga, act_lc, h, act_rev2 C l]
  have fb : pr n W a (act n W v.reverse (eb b)) = -2 := by rw [← h, act_rev C l, pr_eb ha, C.dg a ha]
  have fl : ∀ x t y, pr n W a (act n W v.reverse (lc x t y)) = pr n W a (act n W v.reverse x) + t * pr n W a (act n W v.reverse y) := fun x t y => by rw [act_lc, pr_lc]
  have key : ∀ c, c < n → pr n W a (act n W v.reverse (eb c)) = pr n W b (eb c) := fun c hc => by
    by_cases e : c = b
    · subst e
      rw [fb, pr_eb hc, C.dg c hc]
    · have cb : (eb c) b = 0 := by unfold eb; rw [if_neg (fun z => e z.symm)]
      have cc : (eb c) c = 1 := by unfold eb; rw [if_pos rfl]
      have bb : (eb b) b = 1 := by unfold eb; rw [if_pos rfl]
      have bc : (eb b) c = 0 := by unfold eb; rw [if_neg e]
      have l1 : lets n (b :: (v ++ (a :: v.reverse))) := fun z hz => by
        rcases List.mem_cons.mp hz with rfl | hz
        · exact hb
        · rcases List.mem_append.mp hz with hz | hz
          · exact l z hz
          · rcases List.mem_cons.mp hz with rfl | hz
            · exact ha
            · exact lr z hz
      have l2 : lets n (v ++ (a :: (v.reverse ++ [b]))) := fun z hz => by
        rcases List.mem_append.mp hz with hz | hz
        · exact l z hz
        · rcases List.mem_cons.mp hz with rfl | hz
          · exact ha
          · rcases List.mem_append.mp hz with hz | hz
            · exact lr z hz
            · rcases List.mem_cons.mp hz with rfl | hz
              · exact hb
              · cases hz
      have z1 : act n W (b :: (v ++ (a :: v.reverse))) (eb c) = sg n W b (lc (eb c) (pr n W a (act n W v.reverse (eb c))) (eb b)) := by
        show sg n W b (act n W (v ++ (a :: v.reverse)) (eb c)) = _
        rw [act_app]
        show sg n W b (act n W v (sg n W a (act n W v.reverse (eb c)))) = _
        rw [gx]
      have z2 : act n W (v ++ (a :: (v.reverse ++ [b]))) (eb c) = lc (sg n W b (eb c)) (pr n W a (act n W v.reverse (sg n W b (eb c)))) (eb b) := by
        rw [act_app]
        show act n W v (sg n W a (act n W (v.reverse ++ [b]) (eb c))) = _
        rw [act_app]
        exact gx _
      have s1 := sp_act C hc l1
      have s2 := sp_act C hc l2
      rw [z1, sgb, pr_lc, pr_eb hc, pr_eb hb, C.dg b hb] at s1
      rw [z2, sgb, fl, fb, pr_eb hc] at s2
      rw [pr_eb hc]
      generalize pr n W a (act n W v.reverse (eb c)) = f at *
      have f1 : 0 ≤ W b c - f := by
        rcases s1 with s | s
        · have := s.nn b
          unfold lc at this
          rw [cb, bb] at this
          omega
        · have := s.nn c
          rw [neg_at] at this
          unfold lc at this
          rw [cc, bc] at this
          omega
      have f2 : 0 ≤ f - W b c := by
        rcases s2 with s | s
        · have := s.nn b
          unfold lc at this
          rw [cb, bb] at this
          omega
        · have := s.nn c
          rw [neg_at] at this
          unfold lc at this
          rw [cc, bc] at this
          omega
      omega
  have kx : pr n W a x = pr n W b (act n W v x) := by
    have := lin_eq (n := n) (F := fun x => pr n W a (act n W v.reverse x)) (G := fun x => pr n W b x) fl (fun x t y => pr_lc) key (x := act n W v x) (supp_act hx l)
    rw [act_rev C l] at this
    exact this
  rw [sga, act_lc, h, sgb, pr_lc, pr_eb hb, C.dg b hb, ← kx]
  funext j
  unfold lc
  generalize eb b j = z
  generalize pr n W a x = t
  rw [show t + t * -2 = -t by omega, Int.neg_mul]
  omega
theorem exch2 (C : Car n W) {a : Nat} (ha : a < n) {w : List Nat} (l : lets n w) (h : Pos n W (neg (act n W w (eb a)))) : ∃ u b v, w = u ++ b :: v ∧ ∀ x, supp n x → act n W (w ++ [a]) x = act n W (u ++ v) x := by
  obtain ⟨u, b, v, e, e2⟩ := exch C ha l h
  subst e
  have hb : b < n := l b (by simp)
  have lv : lets n v := fun z hz => l z (by simp [hz])
  refine ⟨u, b, v, rfl, fun x hx => ?_⟩
  rw [act_app, act_app]
  show act n W u (sg n W b (act n W v (sg n W a x))) = _
  rw [conj C ha hb lv e2 hx, act_app]
def hv (n : Nat) (W : Nat → Nat → Int) (w : List Nat) (a : Nat) : Int := sm (act n W w (eb a)) n
def Rw (n : Nat) (W : Nat → Nat → Int) (w v : List Nat) : Prop := ∀ c, c < n → hv n W w c = hv n W v c
theorem hv_neg_iff (C : Car n W) {a : Nat} (ha : a < n) {w : List Nat} (l : lets n w) : hv n W w a < 0 → Pos n W (neg (act n W w (eb a))) := fun h => by
  rcases sp_act C ha l with s | s
  · have := s.ht
    unfold hv at h
    omega
  · exact s
theorem hv_ne (C : Car n W) {a : Nat} (ha : a < n) {w : List Nat} (l : lets n w) : hv n W w a ≠ 0 := fun h => by
  unfold hv at h
  rcases sp_act C ha l with s | s
  · have := s.ht
    omega
  · have := s.ht
    rw [sm_neg] at this
    omega
theorem Rw.refl {w : List Nat} : Rw n W w w := fun _ _ => rfl
theorem Rw.symm {w v : List Nat} (h : Rw n W w v) : Rw n W v w := fun c hc => (h c hc).symm
theorem Rw.trans {u v w : List Nat} (h : Rw n W u v) (h2 : Rw n W v w) : Rw n W u w := fun c hc => (h c hc).trans (h2 c hc)
theorem Rw.sm {w v : List Nat} (h : Rw n W w v) {x : Vec} (hx : supp n x) : sm (act n W w x) n = sm (act n W v x) n :=
  lin_eq (n := n) (F := fun x => TT.sm (act n W w x) n) (G := fun x => TT.sm (act n W v x) n) (fun x t y => by rw [act_lc, sm_lc]) (fun x t y => by rw [act_lc, sm_lc]) h hx
theorem Rw.app {w v : List Nat} (h : Rw n W w v) {u : List Nat} (l : lets n u) : Rw n W (w ++ u) (v ++ u) := fun c hc => by
  unfold hv
  rw [act_app, act_app]
  exact h.sm (supp_act (supp_eb hc) l)
theorem hv_app_self (C : Car n W) {a : Nat} (ha : a < n) {w : List Nat} : hv n W (w ++ [a]) a = - hv n W w a := by
  unfold hv
  rw [act_app, show act n W [a] (eb a) = sg n W a (eb a) from rfl, sg_eb C ha, act_neg, sm_neg]
theorem Rw.twice (C : Car n W) {a : Nat} (ha : a < n) {w : List Nat} : Rw n W (w ++ [a] ++ [a]) w := fun c hc => by
  unfold hv
  rw [act_app, act_app]
  show TT.sm (act n W w (sg n W a (sg n W a (eb c)))) n = _
  rw [sg_sg C ha]
theorem Rw.of_map {w v : List Nat} (h : ∀ x, supp n x → act n W w x = act n W v x) : Rw n W w v := fun c hc => by unfold hv; rw [h _ (supp_eb hc)]
theorem hv_nil {c : Nat} (hc : c < n) : hv n W [] c = 1 := by
  unfold hv
  show sm (eb c) n = 1
  have := sm_eb (f := fun _ => (1 : Int)) hc
  simpa using this
theorem triv (C : Car n W) : ∀ (k : Nat) (w : List Nat), w.length = k → lets n w → (∀ c, c < n → hv n W w c = 1) → ∀ x, supp n x → act n W w x = x
  | k, w, hk, l, h, x, hx => by
    rcases List.eq_nil_or_concat w with rfl | ⟨w', a, e⟩
    · rfl
    · rw [List.concat_eq_append] at e
      subst e
      obtain ⟨lw, la⟩ := lets_app.mp l
      have ha := la a (by simp)
      have h1 := h a ha
      rw [hv_app_self C ha] at h1
      obtain ⟨u, b, v, e, hm⟩ := exch2 C ha lw (hv_neg_iff C ha lw (by omega))
      have luv : lets n (u ++ v) := by
        subst e
        exact fun z hz => lw z (by rcases List.mem_append.mp hz with q | q <;> simp [q])
      rw [hm x hx]
      have hl : (u ++ v).length < k := by
        subst e
        simp at hk ⊢
        omega
      refine triv C (u ++ v).length (u ++ v) rfl luv (fun c hc => ?_) x hx
      rw [← h c hc]
      unfold hv
      rw [hm _ (supp_eb hc)]
termination_by k => k
theorem Rw.map (C : Car n W) {w v : List Nat} (lw : lets n w) (lv : lets n v) (h : Rw n W w v) : ∀ x, supp n x → act n W w x = act n W v x := fun x hx => by
  have t := triv C _ (w ++ v.reverse) rfl (lets_app.mpr ⟨lw, lets_rev.mpr lv⟩) (fun c hc => by
    rw [h.app (lets_rev.mpr lv) c hc]
    unfold hv
    rw [act_app, act_rev2 C lv]
    exact hv_nil (W := W) hc) (act n W v x) (supp_act hx lv)
  rw [act_app, act_rev C lv] at t
  exact t
theorem min_ex (P : Nat → Prop) : ∀ k, P k → ∃ m, P m ∧ ∀ j, P j → m ≤ j
  | k, h => by
    by_cases q : ∃ j, j < k ∧ P j
    · obtain ⟨j, hj, pj⟩ := q
      exact min_ex P j pj
    · exact ⟨k, h, fun j hj => Nat.le_of_not_lt fun z => q ⟨j, z, hj⟩⟩
termination_by k => k
structure Ln (n : Nat) (W : Nat → Nat → Int) (w : List Nat) (k : Nat) : Prop where
  ex : ∃ v, lets n v ∧ v.length = k ∧ Rw n W v w
  le : ∀ v, lets n v → Rw n W v w → k ≤ v.length
theorem Ln.has {w : List Nat} (l : lets n w) : ∃ k, Ln n W w k := by
  obtain ⟨m, ⟨v, h1, h2, h3⟩, h4⟩ := min_ex (fun k => ∃ v, lets n v ∧ v.length = k ∧ Rw n W v w) w.length ⟨w, l, rfl, .refl⟩
  exact ⟨m, ⟨v, h1, h2, h3⟩, fun v a b => h4 _ ⟨v, a, rfl, b⟩⟩
theorem Ln.uniq {w : List Nat} {j k : Nat} (a : Ln n W w j) (b : Ln n W w k) : j = k := by
  obtain ⟨v, h1, h2, h3⟩ := a.ex
  obtain ⟨u, g1, g2, g3⟩ := b.ex
  have := a.le u g1 g3
  have := b.le v h1 h3
  omega
theorem Ln.cong {w v : List Nat} {k : Nat} (a : Ln n W w k) (h : Rw n W w v) : Ln n W v k := by
  obtain ⟨u, h1, h2, h3⟩ := a.ex
  exact ⟨⟨u, h1, h2, h3.trans h⟩, fun z l r => a.le z l (r.trans h.symm)⟩
theorem Ln.down (C : Car n W) {a : Nat} (ha : a < n) {w : List Nat} (l : lets n w) {k : Nat} (h : Ln n W w k) (hn : hv n W w a < 0) : ∃ j, k = j + 1 ∧ Ln n W (w ++ [a]) j := by
  obtain ⟨v, h1, h2, h3⟩ := h.ex
  have la : lets n [a] := fun z hz => by simp at hz; subst hz; exact ha
  obtain ⟨u, b, v', e, hm⟩ := exch2 C ha h1 (hv_neg_iff C ha h1 (by rw [h3 a ha]; exact hn))
  have luv : lets n (u ++ v') := by
    subst e
    exact fun z hz => h1 z (by rcases List.mem_append.mp hz with q | q <;> simp [q])
  have r1 : Rw n W (u ++ v') (w ++ [a]) := (Rw.of_map fun x hx => (hm x hx).symm).trans (h3.app la)
  have hl : (u ++ v').length + 1 = k := by subst e; simp at h2 ⊢; omega
  refine ⟨(u ++ v').length, hl.symm, ⟨u ++ v', luv, rfl, r1⟩, fun z lz rz => ?_⟩
  have := h.le (z ++ [a]) (lets_app.mpr ⟨lz, la⟩) ((rz.app la).trans (.twice C ha))
  rw [List.length_append] at this
  simp at this
  simp at hl ⊢
  omega
theorem Ln.up (C : Car n W) {a : Nat} (ha : a < n) {w : List Nat} (l : lets n w) {k : Nat} (h : Ln n W w k) (hn : 0 < hv n W w a) : Ln n W (w ++ [a]) (k + 1) := by
  have la : lets n [a] := fun z hz => by simp at hz; subst hz; exact ha
  obtain ⟨j, hj⟩ := Ln.has (W := W) (lets_app.mpr ⟨l, la⟩)
  obtain ⟨i, e, hi⟩ := hj.down C ha (lets_app.mpr ⟨l, la⟩) (by rw [hv_app_self C ha]; omega)
  have := (hi.cong (Rw.twice C ha)).uniq h
  subst this
  rw [← e]
  exact hj
theorem Ln.zero {w : List Nat} (h : Ln n W w 0) : ∀ c, c < n → hv n W w c = 1 := fun c hc => by
  obtain ⟨v, h1, h2, h3⟩ := h.ex
  obtain rfl : v = [] := List.eq_nil_of_length_eq_zero h2
  rw [← h3 c hc]
  exact hv_nil hc
theorem Ln.of_pos (C : Car n W) {w : List Nat} (l : lets n w) {k : Nat} (h : Ln n W w k) (hp : ∀ c, c < n → 0 < hv n W w c) : k = 0 := by
  obtain ⟨v, h1, h2, h3⟩ := h.ex
  rcases List.eq_nil_or_concat v with rfl | ⟨v', a, e⟩
  · exact h2.symm
  · rw [List.concat_eq_append] at e
    subst e
    obtain ⟨lv, la⟩ := lets_app.mp h1
    have ha := la a (by simp)
    have p := hp a ha
    rw [← h3 a ha, hv_app_self C ha] at p
    obtain ⟨j, hj⟩ := Ln.has (W := W) lv
    obtain ⟨i, e, hi⟩ := hj.down C ha lv (by omega)
    have e2 := (hi.cong h3).uniq h
    have := hj.le v' lv .refl
    simp at h2
    omega
theorem Ln.le_len {w : List Nat} (l : lets n w) {k : Nat} (h : Ln n W w k) : k ≤ w.length := h.le w l .refl
end
end TT
namespace BW
open PySem L2 DL
def kd_WEIGHTS : List (Int × D) := [(2, tI [0, 0]), (3, tI [1, 1]), (4, tI [1, 2]), (6, tI [1, 3]), (0, tI [2, 2])]
abbrev t_is_whole : DS := (dRet (dAndV (dIsi "int" (dVar 0)) (dNotV (dIsi "bool" (dVar 0)))))
abbrev t_weight_of : DS := (dSeq (dIfS (dTB (dOp oEq (dVar 1) (dVar 2))) (dRet (dC (.int (-2)))) dNext)
  (dSeq (dAsg (dKd kd_WEIGHTS (dOp oIx (dIxN 0 (dOp oSub (dVar 1) (dC (.int 1)))) (dOp oSub (dVar 2) (dC (.int 1))))) (dgTup 2 (dgCons (dgN 3) (dgCons (dgN 4) dgNil))))
  (dRet (dIf (dTB (dOp oLt (dVar 1) (dVar 2))) (dVar 3) (dVar 4)))))
abbrev t_weights_from : DS := (dRet (dTupOf (dFr (dLc (iR2 (dC (.int 1)) (dOp oAdd (dLenN 0) (dC (.int 1)))) (dgN 2) dY (dCall sp_weight_of (dCons (dVar 0) (dCons (dVar 1) (dCons (dVar 2) dNil)))) [2]))))
abbrev t__law_mixed : DS := (dSeq (dSet 2 (dOp oAdd (dOp oAdd (dOp oMod (dInt (dOp oMul (dOp oMul (dVar 0) (dOp oAdd (dC (.int 1)) (dOp oMul (dC (.int 2)) (dVar 1)))) (dC (.int 48271)))) (dC (.int 2147483647))) (dOp oMul (dOp oMul (dC (.int 7919)) (dVar 1)) (dVar 1))) (dOp oMul (dC (.int 104729)) (dVar 1))))
  (dRet (dOp oDiv (dOp oMod (dInt (dOp oMul (dVar 2) (dC (.int 69621)))) (dC (.int 2147483629))) (dC (.int 7)))))
end BW
namespace BW
open PySem L2 DL
theorem iteD {p : Prop} [Decidable p] {a b : Prop} (h1 : p → a) (h2 : ¬p → b) : if decide p = true then a else b := by
  by_cases h : p
  · rw [decide_eq_true h]; exact iteT (h1 h)
  · rw [decide_eq_false h]; exact iteF (h2 h)
theorem ixN_nat {n j : Nat} (hj : j < n) : ixN n (j : Int) = some j := by
  unfold ixN
  rw [if_pos (by omega), if_pos (by omega)]
  simp
theorem getD_get {α : Type} {xs : List α} {i : Nat} {d : α} (h : i < xs.length) : xs[i]? = some (xs.getD i d) := by
  rw [List.getD_eq_getElem?_getD, List.getElem?_eq_getElem h]; rfl
theorem atM {α β : Type} {xs : List α} {f : α → β} {i : Nat} (d : α) (h : i < xs.length) : atI (xs.map f) (i : Int) = some (f (xs.getD i d)) := by
  refine atI_nat ?_
  rw [List.getElem?_map, getD_get (d := d) h]; rfl
theorem eqvI (a b : Int) : PyData.eqv (D.int a).py (D.int b).py = decide (a = b) := by
  show PyData.eqv (.int a) (.int b) = _
  first | rfl | (unfold PyData.eqv; rfl)
abbrev St0 (hm : Bool) (n : Nat) (ds : List D) (X : List Addr) (k : Nat) : S := ⟨X, init hm n ds, k⟩
abbrev En (R : D → Nat → Prop) : DEnds := { nx := fun s => R .non s.k, rt := R }
theorem r_is_whole (X : List Addr) (ds : List D) (k : Nat) (R : D → Nat → Prop) (h : sp_is_whole ds k R) : t_is_whole (En R) (St0 false 1 ds X k) := by
  obtain ⟨d, rfl, hd, h⟩ := h
  intro X
  cases d <;> first
    | exact ⟨_, rfl, _, _, rfl, rfl, _, rfl, iteT ⟨_, rfl, _, _, rfl, rfl, _, rfl, h⟩⟩
    | exact ⟨_, rfl, _, _, rfl, rfl, _, rfl, iteF h⟩
    | cases hd
end BW
namespace BW
open PySem L2 DL
theorem look_wts {k : Int} (h : k = 2 ∨ k = 3 ∨ k = 4 ∨ k = 6 ∨ k = 0) : lookI kd_WEIGHTS k = some (tI [(wts k).1, (wts k).2]) := by
  rcases h with e | e | e | e | e <;> subst e <;> rfl
theorem r_weight_of (X : List Addr) (ds : List D) (k : Nat) (R : D → Nat → Prop) (h : sp_weight_of ds k R) : t_weight_of (En R) (St0 false 5 ds X k) := by
  obtain ⟨T, a, b, rfl, ht, a1, a2, b1, b2, h⟩ := h
  obtain ⟨i, rfl⟩ : ∃ i : Nat, a = (i : Int) + 1 := ⟨(a - 1).toNat, by omega⟩
  obtain ⟨j, rfl⟩ : ∃ j : Nat, b = (j : Int) + 1 := ⟨(b - 1).toNat, by omega⟩
  have hi : i < T.length := by omega
  have hj : j < T.length := by omega
  have ei : ix ((i : Int) + 1) = i := by unfold ix; omega
  have ej : ix ((j : Int) + 1) = j := by unfold ix; omega
  rw [ei, ej] at h
  have row : ∀ i : Nat, i < T.length → ∀ z : Int, z = (i : Int) → atI (T.map tI) z = some (tI (T.getD i [])) := fun i hi z e => by rw [e]; exact atM [] hi
  have item : ∀ i j : Nat, i < T.length → j < T.length → ∀ z : Int, z = (j : Int) → atI ((T.getD i []).map D.int) z = some (.int (at2 T i j)) := fun i j hi hj z e => by rw [e]; exact atM 0 (by rw [ht.sq i hi]; exact hj)
  refine ⟨_, rfl, _, rfl, rfl, rfl, _, rfl, ?_⟩
  rw [eqvI]
  refine iteD (fun e => ?_) fun ne => ?_
  · intro X
    have e : i = j := by omega
    subst e
    unfold wt at h
    rw [if_pos rfl] at h
    exact h
  · have ne' : i ≠ j := by omega
    refine ⟨_, rfl, _, rfl, _, _, rfl, row i hi _ (by omega), _, rfl, _, _, rfl, item i j hi hj _ (by omega), ?_⟩
    refine ⟨_, _, rfl, look_wts (ht.of i j hi hj ne'), rfl, rfl, ?_⟩
    intro X
    unfold wt at h
    rw [if_neg ne'] at h
    refine ⟨_, rfl, _, rfl, _, rfl, iteD (fun lt => ⟨_, rfl, ?_⟩) fun ge => ⟨_, rfl, ?_⟩⟩
    · rw [if_pos (by omega)] at h; exact h
    · rw [if_neg (by omega)] at h; exact h
theorem r_weights_from (X : List Addr) (ds : List D) (k : Nat) (R : D → Nat → Prop) (h : sp_weights_from ds k R) : t_weights_from (En R) (St0 false 3 ds X k) := by
  obtain ⟨T, a, rfl, ht, a1, a2, h⟩ := h
  have hi := ht.hi
  intro X
  refine ⟨_, rfl, 1, _, rfl, rfl, ⟨by omega, by omega, ?_, ?_⟩, ?_⟩
  · rw [List.length_map]; omega
  · rw [List.length_map]; omega
  have en : (((T.map tI).length : Int) + 1 - 1).toNat = T.length := by rw [List.length_map]; omega
  rw [en]
  refine ⟨by rw [rngD_len]; exact Nat.le_trans hi (by decide), fun p hp => ⟨fun i acc k' => k' = k ∧ acc = ((List.range i).map fun j => D.int (wt T (ix a) j)), ⟨rfl, rfl⟩, ?_, ?_⟩⟩
  · rintro i d acc k' hd ⟨rfl, rfl⟩ hl
    obtain ⟨hi, rfl⟩ := rngD_at hd
    refine iteT ⟨_, rfl, _, rfl, _, rfl, T, a, _, rfl, ht, a1, a2, by omega, by omega, rfl, ?_⟩
    rw [List.range_succ, List.map_append]
    have e : ix (1 + (i : Int)) = i := by unfold ix; omega
    rw [e]
    rfl
  · rintro acc k' ⟨rfl, rfl⟩ hl
    refine ⟨_, rfl, ?_⟩
    have e : ((List.range (rngD 1 T.length).length).map fun j => D.int (wt T (ix a) j)) = (wtr T (ix a)).map .int := by
      unfold wtr
      rw [rngD_len, List.map_map]
      rfl
    rw [e]
    exact h
end BW
namespace BW
open PySem L2 DL
theorem press_length (T : Mat) (r : List Int) (i : Nat) : (press T r i).length = T.length := by unfold press; rw [List.length_map, List.length_range]
end BW
namespace BW
open PySem L2 DL
theorem fall_mem {r : List Int} {a : Int} (h : a ∈ fall r) : ∃ i : Nat, a = (i : Int) + 1 ∧ i < r.length ∧ r.getD i 0 < 0 := by
  unfold fall at h
  obtain ⟨i, hi, rfl⟩ := List.mem_map.mp h
  obtain ⟨h1, h2⟩ := List.mem_filter.mp hi
  exact ⟨i, rfl, List.mem_range.mp h1, of_decide_eq_true h2⟩
theorem wd_nil {T : Mat} {n : Nat} {r : List Int} (h : fall r = []) : wd T n r = ([], r) := by
  cases n with
  | zero => rfl
  | succ n => unfold wd; rw [h]
theorem wd_cons {T : Mat} {n : Nat} {r : List Int} {a : Int} {q : List Int} (h : fall r = a :: q) : wd T (n + 1) r = (a :: (wd T n (press T r (ix a))).1, (wd T n (press T r (ix a))).2) := by
  conv => lhs; unfold wd
  rw [h]
theorem row_length (T : Mat) (w : List Int) : (row T w).length = T.length := by
  unfold row
  have : ∀ (w : List Int) (r : List Int), r.length = T.length → (w.foldl (fun r a => press T r (ix a)) r).length = T.length := by
    intro w
    induction w with
    | nil => exact fun _ h => h
    | cons a w ih => exact fun r _ => ih _ (press_length _ _ _)
  exact this w _ (by unfold one; rw [List.length_replicate])
end BW
namespace BW
open PySem L2 DL
theorem r__law_mixed (X : List Addr) (ds : List D) (k : Nat) (R : D → Nat → Prop) (h : sp__law_mixed ds k R) : t__law_mixed (En R) (St0 false 3 ds X k) := by
  obtain ⟨a, n, rfl, a0, a1, n0, n1, h⟩ := h
  (repeat (first | with_reducible refine ⟨_, rfl, ?_⟩ | refine ⟨_, rfl, ?_⟩ | refine And.intro (by (first | omega | exact Or.inl ⟨by omega, by omega⟩ | exact Or.inr ⟨by omega, by omega⟩ | exact wide_div (b := 40) (by omega) (by omega) (by decide) (by decide) | exact ⟨by omega, by omega⟩ | exact ⟨by omega, by omega, by omega⟩ | exact ⟨by omega, by omega, by omega, by omega⟩ | decide)) ?_))
  intro X
  (repeat (first | with_reducible refine ⟨_, rfl, ?_⟩ | refine ⟨_, rfl, ?_⟩ | refine And.intro (by (first | omega | exact Or.inl ⟨by omega, by omega⟩ | exact Or.inr ⟨by omega, by omega⟩ | exact wide_div (b := 40) (by omega) (by omega) (by decide) (by decide) | exact ⟨by omega, by omega⟩ | exact ⟨by omega, by omega, by omega⟩ | exact ⟨by omega, by omega, by omega, by omega⟩ | decide)) ?_))
  refine h _ ?_ ?_
  · omega
  · omega
end BW
namespace BW
open PySem L2 DL
inductive Deed where
  | inn (k : Nat) (a : Int) | out (k : Nat) | turn (k : Nat)
def Deed.d : Deed → D
  | .inn k a => .tup [.str "in", .int k, .int a]
  | .out k => .tup [.str "out", .int k]
  | .turn k => .tup [.str "turn", .int k]
def Deed.k : Deed → Nat
  | .inn k _ => k
  | .out k => k
  | .turn k => k
def mv (T : Mat) (w : List Int) : Deed → Option (List Int)
  | .inn k a => some ((w.take k ++ [a, a]) ++ w.drop k)
  | .out k => if k + 1 < w.length ∧ w.getD k 0 = w.getD (k + 1) 0 then some (w.take k ++ w.drop (k + 2)) else none
  | .turn k => if k + 1 < w.length ∧ w.getD k 0 ≠ w.getD (k + 1) 0 then
      (let a := w.getD k 0
       let b := w.getD (k + 1) 0
       let m := (at2 T (ix a) (ix b)).toNat
       if m ≠ 0 ∧ (w.drop k).take m = alt a b m then some ((w.take k ++ alt b a m) ++ w.drop (k + m)) else none) else none
theorem mv_out (T : Mat) (w : List Int) (k : Nat) : mv T w (.out k) = if k + 1 < w.length ∧ w.getD k 0 = w.getD (k + 1) 0 then some (w.take k ++ w.drop (k + 2)) else none := rfl
theorem mv_turn (T : Mat) (w : List Int) (k : Nat) : mv T w (.turn k) = if k + 1 < w.length ∧ w.getD k 0 ≠ w.getD (k + 1) 0 then
      (if (at2 T (ix (w.getD k 0)) (ix (w.getD (k + 1) 0))).toNat ≠ 0 ∧ (w.drop k).take (at2 T (ix (w.getD k 0)) (ix (w.getD (k + 1) 0))).toNat = alt (w.getD k 0) (w.getD (k + 1) 0) (at2 T (ix (w.getD k 0)) (ix (w.getD (k + 1) 0))).toNat then some ((w.take k ++ alt (w.getD (k + 1) 0) (w.getD k 0) (at2 T (ix (w.getD k 0)) (ix (w.getD (k + 1) 0))).toNat) ++ w.drop (k + (at2 T (ix (w.getD k 0)) (ix (w.getD (k + 1) 0))).toNat)) else none) else none := rfl
end BW
namespace BW
open PySem L2 DL
theorem range_step {α : Type} (f : Nat → α) (j : Nat) : (List.range (j + 1)).map f = (List.range j).map f ++ [f j] := by rw [List.range_succ, List.map_append]; rfl
end BW
namespace BW
open PySem L2 DL
theorem alt_length (a b : Int) (n : Nat) : (alt a b n).length = n := by unfold alt; rw [List.length_map, List.length_range]
theorem alt_mem {a b x : Int} {n : Nat} (h : x ∈ alt a b n) : x = a ∨ x = b := by
  unfold alt at h
  obtain ⟨i, _, rfl⟩ := List.mem_map.mp h
  by_cases c : i % 2 = 0
  · rw [if_pos c]; exact .inl rfl
  · rw [if_neg c]; exact .inr rfl
def Deed.fits (n m : Nat) : Deed → Prop
  | .inn k a => k ≤ m ∧ 1 ≤ a ∧ a ≤ n
  | _ => True
theorem mv_wd {T : Mat} {w v : List Int} {e : Deed} (hw : Wd T.length w) (he : e.fits T.length w.length) (h : mv T w e = some v) : Wd T.length v := by
  have tk : ∀ n x, x ∈ w.take n → x ∈ w := fun n x h => List.mem_of_mem_take h
  have dp : ∀ n x, x ∈ w.drop n → x ∈ w := fun n x h => List.mem_of_mem_drop h
  cases e with
  | inn k a =>
    have h : (w.take k ++ [a, a]) ++ w.drop k = v := Option.some.inj h
    subst h
    intro x hx
    rcases List.mem_append.mp hx with hx | hx
    · rcases List.mem_append.mp hx with hx | hx
      · exact hw x (tk _ _ hx)
      · simp at hx
        subst hx
        exact he.2
    · exact hw x (dp _ _ hx)
  | out k =>
    rw [mv_out] at h
    split at h
    · cases h
      intro x hx
      rcases List.mem_append.mp hx with hx | hx
      · exact hw x (tk _ _ hx)
      · exact hw x (dp _ _ hx)
    · cases h
  | turn k =>
    rw [mv_turn] at h
    split at h
    · rename_i c
      split at h
      · cases h
        have ma := hw (w.getD k 0) (List.mem_of_getElem? (getD_get (d := 0) (by omega : k < w.length)))
        have mb := hw (w.getD (k + 1) 0) (List.mem_of_getElem? (getD_get (d := 0) c.1))
        intro x hx
        rcases List.mem_append.mp hx with hx | hx
        · rcases List.mem_append.mp hx with hx | hx
          · exact hw x (tk _ _ hx)
          · rcases alt_mem hx with e | e
            · rw [e]; exact mb
            · rw [e]; exact ma
        · exact hw x (dp _ _ hx)
      · cases h
    · cases h
def Deed.isIn : Deed → Bool
  | .inn _ _ => true
  | _ => false
theorem mv_len {T : Mat} {w v : List Int} {e : Deed} (h : mv T w e = some v) : v.length ≤ w.length + (if e.isIn = true then 2 else 0) := by
  cases e with
  | inn k a =>
    have h : (w.take k ++ [a, a]) ++ w.drop k = v := Option.some.inj h
    subst h
    show _ ≤ w.length + 2
    rw [List.length_append, List.length_append, List.length_take, List.length_drop]
    show min k w.length + 2 + (w.length - k) ≤ _
    omega
  | out k =>
    rw [mv_out] at h
    split at h
    · cases h
      show _ ≤ w.length + 0
      rw [List.length_append, List.length_take, List.length_drop]
      omega
    · cases h
  | turn k =>
    rw [mv_turn] at h
    split at h
    · rename_i c
      split at h
      · rename_i c2
        cases h
        show _ ≤ w.length + 0
        have l := congrArg List.length c2.2
        rw [alt_length, List.length_take, List.length_drop] at l
        rw [List.length_append, List.length_append, alt_length, List.length_take, List.length_drop]
        omega
      · cases h
    · cases h
end BW
namespace BW
open PySem L2 DL
def exLS (K : PySem.W.Frag) (t : DS) : TS := fun D σ H => ∃ c, c.K = K ∧ LS c t D σ H
theorem PS.exL {X : Cx} {st : Stmt} {K : PySem.W.Frag} {t : DS} (h : ∀ c, c.K = K → PS X st (LS c t)) : PS X st (exLS K t) := ⟨fun pins s σ H Q I ⟨c, hc, q⟩ => (h c hc).run pins s σ H Q I q⟩
def exLF (K : PySem.W.Frag) (t : DA) : TE := fun σ H Q => ∃ c, c.K = K ∧ LF c t σ H Q
theorem PE.exF {X : Cx} {e : Expr} {K : PySem.W.Frag} {t : DA} (h : ∀ c, c.K = K → PE X e (LF c t)) : PE X e (exLF K t) := ⟨fun pins s σ H Q I ⟨c, hc, q⟩ => (h c hc).run pins s σ H Q I q⟩
def exLE (K : PySem.W.Frag) (t : DE) : TE := fun σ H Q => ∃ c, c.K = K ∧ LE c t σ H Q
theorem PE.exE {X : Cx} {e : Expr} {K : PySem.W.Frag} {t : DE} (h : ∀ c, c.K = K → PE X e (LE c t)) : PE X e (exLE K t) := ⟨fun pins s σ H Q I ⟨c, hc, q⟩ => (h c hc).run pins s σ H Q I q⟩
abbrev inSc : Scope := { kind := .function, names := [(".0", .local), ("a", .cell), ("range", .globalImplicit), ("many", .cell)], isGenerator := false, isCoroutine := false }
structure Mx (H : Hp) (p : Addr) (qs : List Addr) (M : Mat) : Prop where
  top : H p = some (.lst (qs.map V.ref))
  len : qs.length = M.length
  row : ∀ (i : Nat) (q : Addr) (r : List Int), qs[i]? = some q → M[i]? = some r → H q = some (.lst (r.map V.int))
  nd : qs.Nodup
  out : p ∉ qs
theorem Mx.set {H : Hp} {p q : Addr} {qs : List Addr} {M : Mat} {i : Nat} (h : Mx H p qs M) (hq : qs[i]? = some q) (r' : List Int) : Mx (upd H q (.lst (r'.map V.int))) p qs (M.set i r') := by
  have mem := List.mem_of_getElem? hq
  have npq : p ≠ q := fun z => h.out (z ▸ mem)
  refine ⟨by rw [upd_ne npq]; exact h.top, by rw [List.length_set]; exact h.len, fun j q2 r2 h1 h2 => ?_, h.nd, h.out⟩
  by_cases e : j = i
  · subst e
    rw [hq] at h1
    cases h1
    have hl : j < M.length := by have := (List.getElem?_eq_some_iff.mp h2).1; rw [List.length_set] at this; exact this
    rw [List.getElem?_set_self hl] at h2
    cases h2
    exact upd_same
  · rw [List.getElem?_set_ne (fun z => e z.symm)] at h2
    have ne : q2 ≠ q := fun z => e (by
      subst z
      obtain ⟨h3, e3⟩ := List.getElem?_eq_some_iff.mp h1
      obtain ⟨h4, e4⟩ := List.getElem?_eq_some_iff.mp hq
      exact (List.getElem_inj h.nd).mp (e3.trans e4.symm))
    rw [upd_ne ne]
    exact h.row j q2 r2 h1 h2
structure Keep (M : Option Mc) (X0 : List Addr) (H H' : Hp) : Prop where
  ob : ∀ a o, a ∉ Ml M → H a = some o → NoTb o → H' a = some o
  tb : TbK H H'
  old : ∀ a ∈ X0, H' a = H a
theorem Keep.at {M : Option Mc} {X0 : List Addr} {H H' : Hp} (k : Keep M X0 H H') {a : Addr} {o : HO} (n : a ∉ Ml M) (e : H a = some o) (h : NoTb o := by intro _ z; cases z) : H' a = some o := k.ob a o n e h
theorem Keep.refl {M : Option Mc} {X0 : List Addr} {H : Hp} : Keep M X0 H H := ⟨fun _ _ _ h _ => h, .refl, fun _ _ => rfl⟩
theorem Keep.trans {M : Option Mc} {X0 : List Addr} {H H1 H2 : Hp} (a : Keep M X0 H H1) (b : Keep M X0 H1 H2) : Keep M X0 H H2 := ⟨fun x o n h t => b.ob x o n (a.ob x o n h t) t, a.tb.trans b.tb, fun x h => (b.old x h).trans (a.old x h)⟩
theorem Keep.new {M : Option Mc} {X0 : List Addr} {H H1 : Hp} {p : Addr} {o : HO} (k : Keep M X0 H H1) (xs : ∀ a ∈ X0, H a ≠ none) (h : H1 p = none) : Keep M X0 H (upd H1 p o) := ⟨fun a u n e t => by rw [upd_ne (ne_of_none (k.ob a u n e t) h)]; exact k.ob a u n e t, k.tb.trans (.new h), fun a ha => by
  rw [upd_ne (fun z => xs a ha (by rw [← k.old a ha, z]; exact h))]; exact k.old a ha⟩
theorem Keep.mut {M : Option Mc} {X0 : List Addr} {H H1 : Hp} {p : Addr} {o : HO} (k : Keep M X0 H H1) (xs : ∀ a ∈ X0, H a ≠ none) (h : H p = none) (tb : TbK H1 (upd H1 p o)) : Keep M X0 H (upd H1 p o) := ⟨fun a u n e t => by rw [upd_ne (ne_of_none e h)]; exact k.ob a u n e t, k.tb.trans tb, fun a ha => by
  rw [upd_ne (fun z => xs a ha (by rw [z]; exact h))]; exact k.old a ha⟩
theorem Keep.rep {c : C} {s : S} {σ : L2.St} {H2 : Hp} (r : Rep c s σ H2) (xm : ∀ a ∈ c.X0, a ∉ Ml c.M) (xs : ∀ a ∈ c.X0, c.H0 a ≠ none) : Keep c.M c.X0 c.H0 H2 := ⟨fun a o n e t => by
  by_cases z : a ∈ c.X0
  · rw [r.old a z n (xs a z)]; exact e
  · exact (wo_ne (r.sub a o (wo_of (fun y => (List.mem_append.mp y).elim n z) e t))).2, r.tb, fun a ha => r.old a ha (xm a ha) (xs a ha)⟩
theorem Keep.fresh {M : Option Mc} {X0 : List Addr} {H H' : Hp} (k : Keep M X0 H H') {a : Addr} (n : a ∉ Ml M) (h : H' a = none) : H a = none := by
  cases e : H a with
  | none => rfl
  | some o =>
    by_cases t : NoTb o
    · rw [k.ob a o n e t] at h; cases h
    · refine (t fun ps z => ?_).elim
      subst z
      obtain ⟨qs, q⟩ := k.tb.tbl a ps e
      rw [h] at q; cases q
theorem rep_of {K : PySem.W.Frag} {M : Option Mc} {X0 : List Addr} {H : Hp} {σ : L2.St} {sl : List Sl} {k : Nat} (xm : ∀ a ∈ X0, a ∉ Ml M) (xs : ∀ a ∈ X0, H a ≠ none) (xt : ∀ a ∈ X0, ∀ ps, H a ≠ some (.tbl ps)) (hl : sl.length = σ.length) (hm : MAt M H k) (h : ∀ (i : Nat) (x : Sl), sl[i]? = some x → SlOk ⟨K, M, X0, H, []⟩ X0 H σ[i]? x)
    (no : ∀ (i : Nat) (p : Addr) (ds : List D), sl[i]? ≠ some (.own p ds)) : Rep ⟨K, M, X0, H, []⟩ ⟨X0, sl, k⟩ σ H :=
  ⟨Sub.refl _, fun _ _ _ _ => rfl, fun _ h => h, xm, xs, hm, h, fun i j p q ds es e _ _ => absurd e (no i p ds), hl, .refl, xt⟩
def idr (n i : Nat) : List Int := (List.range n).map fun j => if i = j then 1 else 2
def kin (n : Nat) (f : Bool) (c : Nat) : Int := if f = true ∧ c + 2 = n then 4 else 3
def pmE (n : Nat) (f : Bool) (a i j : Nat) : Int := if i = j then 1 else if j = i + 1 ∧ i < a then kin n f i else if i = j + 1 ∧ j < a then kin n f j else 2
def pm (n : Nat) (f : Bool) (a : Nat) : Mat := (List.range n).map fun i => (List.range n).map fun j => pmE n f a i j
def idM (n : Nat) : Mat := (List.range n).map (idr n)
theorem RlA_of {K : PySem.W.Frag} {A : Hp} : ∀ {vs : List V} {ds : List D}, vs.length = ds.length → (∀ (i : Nat) (v : V) (d : D), vs[i]? = some v → ds[i]? = some d → Rl K A v d) → RlA K A vs ds
  | [], [], _, _ => .nil
  | [], _ :: _, h, _ => by cases h
  | _ :: _, [], h, _ => by cases h
  | v :: vs, d :: ds, h, f => .cons (f 0 v d rfl rfl) (RlA_of (Nat.succ.inj h) fun i x y h1 h2 => f (i + 1) x y h1 h2)
theorem Mx.rl {K : PySem.W.Frag} {H : Hp} {p : Addr} {qs : List Addr} {M : Mat} {hid : List Addr} (h : Mx H p qs M) (hp : p ∉ hid) (hq : ∀ q ∈ qs, q ∉ hid) : Rl K (wo H hid) (.ref p) (lM M) := by
  refine .lst (wo_of hp h.top) (RlA_of (by rw [List.length_map, List.length_map]; exact h.len) fun i v d h1 h2 => ?_)
  rw [List.getElem?_map] at h1 h2
  obtain ⟨q, hq1, rfl⟩ := Option.map_eq_some_iff.mp h1
  obtain ⟨r, hr, rfl⟩ := Option.map_eq_some_iff.mp h2
  exact .lst (wo_of (hq q (List.mem_of_getElem? hq1)) (h.row i q r hq1 hr)) (RlA.ints r)
theorem Keep.aft {K : PySem.W.Frag} {M : Option Mc} {X0 : List Addr} {H H' : Hp} {k : Nat} (h : Keep M X0 H H') (hm : MAt M H' k) : Aft K M X0 H H' k := by
  refine ⟨fun a o e => ?_, h.old, hm, h.tb⟩
  have t := wo_tb e
  obtain ⟨n, e⟩ := wo_ne e
  exact wo_of n (h.ob a o (fun z => n (List.mem_append_left _ z)) e t) t
theorem seqAsg {te : TE} {g : TG} {u : TS} {D : Ends} {σ : L2.St} {H : Hp} (h : te σ H fun x H1 => g x σ H1 (u D)) : tSeq (tAsg te g) u D σ H := h
theorem Mx.keepT {H : Hp} {p : Addr} {qs : List Addr} {M : Mat} {T : Addr} {o : HO} (h : Mx H p qs M) (hT : H T = none) : Mx (upd H T o) p qs M :=
  ⟨by rw [upd_ne (ne_of_none h.top hT)]; exact h.top, h.len, fun i q r h1 h2 => by rw [upd_ne (ne_of_none (h.row i q r h1 h2) hT)]; exact h.row i q r h1 h2, h.nd, h.out⟩
theorem set_range {β : Type} {n : Nat} {g g' : Nat → β} {i : Nat} {v : β} (h : ∀ j, j < n → g' j = if j = i then v else g j) : ((List.range n).map g).set i v = (List.range n).map g' := by
  refine List.ext_getElem? fun j => ?_
  rw [List.getElem?_set]
  by_cases hj : j < n
  · rw [List.length_map, List.length_range, List.getElem?_map, List.getElem?_map, List.getElem?_range hj]
    by_cases e : i = j
    · subst e
      rw [if_pos rfl, if_pos hj]
      show some v = some (g' i)
      rw [h i hj, if_pos rfl]
    · rw [if_neg e]
      show some (g j) = some (g' j)
      rw [h j hj, if_neg (fun z => e z.symm)]
  · have e1 : ((List.range n).map g)[j]? = none := by rw [List.getElem?_map, List.getElem?_eq_none (by rw [List.length_range]; omega)]; rfl
    have e2 : ((List.range n).map g')[j]? = none := by rw [List.getElem?_map, List.getElem?_eq_none (by rw [List.length_range]; omega)]; rfl
    rw [e1, e2]
    by_cases e : i = j
    · rw [if_pos e, if_neg (by rw [List.length_map, List.length_range]; omega)]
    · rw [if_neg e]
theorem getD_range {β : Type} {n i : Nat} {g : Nat → β} {d : β} (h : i < n) : ((List.range n).map g).getD i d = g i := by
  rw [List.getD_eq_getElem?_getD, List.getElem?_map, List.getElem?_range h]
  rfl
end BW
namespace BW
open PySem L2 DL
theorem ix_succ (i : Nat) : ix ((i : Int) + 1) = i := by unfold ix; omega
theorem ext_getD {p q : List Int} (hl : p.length = q.length) (h : ∀ j, j < p.length → p.getD j 0 = q.getD j 0) : p = q := by
  refine List.ext_getElem? fun j => ?_
  by_cases hj : j < p.length
  · rw [getD_get (d := 0) hj, getD_get (d := 0) (by omega), h j hj]
  · rw [List.getElem?_eq_none (by omega), List.getElem?_eq_none (by omega)]
end BW
namespace BW
open PySem L2 DL
theorem wts_of {k : Int} (h : k = 2 ∨ k = 3 ∨ k = 4 ∨ k = 6 ∨ k = 0) : wts k = (0, 0) ∧ k = 2 ∨ wts k = (1, 1) ∧ k = 3 ∨ wts k = (1, 2) ∧ k = 4 ∨ wts k = (1, 3) ∧ k = 6 ∨ wts k = (2, 2) ∧ k = 0 := by
  rcases h with rfl | rfl | rfl | rfl | rfl
  · exact .inl ⟨rfl, rfl⟩
  · exact .inr (.inl ⟨rfl, rfl⟩)
  · exact .inr (.inr (.inl ⟨rfl, rfl⟩))
  · exact .inr (.inr (.inr (.inl ⟨rfl, rfl⟩)))
  · exact .inr (.inr (.inr (.inr ⟨rfl, rfl⟩)))
theorem wt_two {T : Mat} (ht : Tab T) {i j : Nat} (hi : i < T.length) (hj : j < T.length) (ne : i ≠ j) :
    (at2 T i j = 2 ∧ wt T i j = 0 ∧ wt T j i = 0) ∨ (at2 T i j = 3 ∧ wt T i j = 1 ∧ wt T j i = 1) ∨ (at2 T i j = 4 ∧ wt T i j = 1 ∧ wt T j i = 2) ∨ (at2 T i j = 4 ∧ wt T i j = 2 ∧ wt T j i = 1) ∨ (at2 T i j = 6 ∧ wt T i j = 1 ∧ wt T j i = 3) ∨ (at2 T i j = 6 ∧ wt T i j = 3 ∧ wt T j i = 1) ∨ (at2 T i j = 0 ∧ wt T i j = 2 ∧ wt T j i = 2) := by
  have sy := ht.sy i j hi hj
  have w1 : wt T i j = if i < j then (wts (at2 T i j)).1 else (wts (at2 T i j)).2 := by unfold wt; rw [if_neg ne]
  have w2 : wt T j i = if j < i then (wts (at2 T i j)).1 else (wts (at2 T i j)).2 := by unfold wt; rw [if_neg (fun z => ne z.symm), ← sy]
  by_cases h : i < j
  · rw [if_pos h] at w1
    rw [if_neg (by omega)] at w2
    rcases wts_of (ht.of i j hi hj ne) with ⟨e, e2⟩ | ⟨e, e2⟩ | ⟨e, e2⟩ | ⟨e, e2⟩ | ⟨e, e2⟩ <;> rw [e] at w1 w2 <;> simp only [] at w1 w2 <;> omega
  · rw [if_neg h] at w1
    rw [if_pos (by omega)] at w2
    rcases wts_of (ht.of i j hi hj ne) with ⟨e, e2⟩ | ⟨e, e2⟩ | ⟨e, e2⟩ | ⟨e, e2⟩ | ⟨e, e2⟩ <;> rw [e] at w1 w2 <;> simp only [] at w1 w2 <;> omega
theorem car_of {T : Mat} (ht : Tab T) : TT.Car T.length (wt T) := by
  refine ⟨fun i _ => by unfold wt; rw [if_pos rfl], fun i j hi hj ne => ?_⟩
  have := wt_two ht hi hj ne
  omega
def pg (n : Nat) (r : List Int) (x : TT.Vec) : Int := TT.sm (fun j => r.getD j 0 * x j) n
theorem pg_mv {n : Nat} {r : List Int} {x : TT.Vec} {t : Int} {b : Nat} (hb : b < n) : pg n r (TT.mv x t b) = pg n r x + r.getD b 0 * t := by
  unfold pg
  rw [TT.sm_congr (g := fun a => r.getD a 0 * x a + t * (r.getD a 0 * TT.eb b a)) (fun j _ => by rw [TT.mv_dif, Int.mul_add, Int.mul_left_comm]), TT.sm_add, TT.sm_mul, TT.sm_eb hb, Int.mul_comm t]
theorem press_get {T : Mat} {r : List Int} {i j : Nat} (hj : j < T.length) : (press T r i).getD j 0 = r.getD j 0 + wt T i j * r.getD i 0 := by unfold press; rw [getD_range hj]
theorem press_len (T : Mat) (r : List Int) (i : Nat) : (press T r i).length = T.length := by unfold press; rw [List.length_map, List.length_range]
theorem pg_press {T : Mat} {r : List Int} {x : TT.Vec} {i : Nat} (hi : i < T.length) : pg T.length (press T r i) x = pg T.length r (TT.sg T.length (wt T) i x) := by
  unfold TT.sg
  rw [pg_mv hi]
  unfold pg TT.pr
  rw [TT.sm_congr (g := fun j => r.getD j 0 * x j + r.getD i 0 * (wt T i j * x j)) (fun j hj => by
    rw [press_get hj, Int.add_mul, Int.mul_comm (wt T i j) (r.getD i 0), Int.mul_assoc]), TT.sm_add, TT.sm_mul]
def pl (T : Mat) (r : List Int) (w : List Int) : List Int := w.foldl (fun r a => press T r (ix a)) r
theorem row_pl (T : Mat) (w : List Int) : row T w = pl T (one T) w := rfl
theorem pl_len {T : Mat} : ∀ {w : List Int} {r : List Int}, r.length = T.length → (pl T r w).length = T.length
  | [], _, h => h
  | a :: w, r, h => pl_len (w := w) (press_len T r (ix a))
theorem ix_lt {n : Nat} {a : Int} (h : 1 ≤ a ∧ a ≤ n) : ix a < n := by unfold ix; omega
theorem lets_of {n : Nat} {w : List Int} (h : Wd n w) : TT.lets n (w.map ix) := fun a ha => by
  obtain ⟨z, hz, rfl⟩ := List.mem_map.mp ha
  exact ix_lt (h z hz)
theorem pg_pl {T : Mat} {x : TT.Vec} : ∀ {w : List Int} {r : List Int}, Wd T.length w → pg T.length (pl T r w) x = pg T.length r (TT.act T.length (wt T) (w.map ix) x)
  | [], _, _ => rfl
  | a :: w, r, h => by
    show pg T.length (pl T (press T r (ix a)) w) x = pg T.length r (TT.sg T.length (wt T) (ix a) (TT.act T.length (wt T) (w.map ix) x))
    rw [pg_pl (fun z hz => h z (List.mem_cons_of_mem _ hz)), pg_press (ix_lt (h a List.mem_cons_self))]
theorem pg_eb {n : Nat} {r : List Int} {c : Nat} (hc : c < n) : pg n r (TT.eb c) = r.getD c 0 := TT.sm_eb (f := fun j => r.getD j 0) hc
theorem pg_one {T : Mat} {x : TT.Vec} : pg T.length (one T) x = TT.sm x T.length := by
  refine TT.sm_congr fun j hj => ?_
  have : (one T).getD j 0 = 1 := by unfold one; rw [List.getD_eq_getElem?_getD, List.getElem?_replicate, if_pos hj]; rfl
  rw [this, Int.one_mul]
theorem row_hv {T : Mat} {w : List Int} (h : Wd T.length w) {c : Nat} (hc : c < T.length) : (row T w).getD c 0 = TT.hv T.length (wt T) (w.map ix) c := by
  rw [← pg_eb hc, row_pl, pg_pl h, pg_one]
  rfl
theorem one_len (T : Mat) : (one T).length = T.length := by unfold one; exact List.length_replicate
theorem row_eq_iff {T : Mat} {w v : List Int} (hw : Wd T.length w) (hv : Wd T.length v) : row T w = row T v ↔ TT.Rw T.length (wt T) (w.map ix) (v.map ix) := by
  constructor
  · intro h c hc
    rw [← row_hv hw hc, ← row_hv hv hc, h]
  · intro h
    refine ext_getD (by rw [row_length, row_length]) fun j hj => ?_
    rw [row_length] at hj
    rw [row_hv hw hj, row_hv hv hj]
    exact h j hj
theorem row_nz {T : Mat} (ht : Tab T) {w : List Int} (hw : Wd T.length w) {c : Nat} (hc : c < T.length) : (row T w).getD c 0 ≠ 0 := by
  rw [row_hv hw hc]
  exact TT.hv_ne (car_of ht) hc (lets_of hw)
theorem row_snoc {T : Mat} {w : List Int} {a : Int} : row T (w ++ [a]) = press T (row T w) (ix a) := by unfold row; rw [List.foldl_append]; rfl
theorem wd_app {n : Nat} {u v : List Int} (hu : Wd n u) (hv : Wd n v) : Wd n (u ++ v) := fun a ha => (List.mem_append.mp ha).elim (hu a) (hv a)
theorem wd_one {n : Nat} {i : Nat} (h : i < n) : Wd n [(i : Int) + 1] := fun a ha => by simp at ha; omega
abbrev LN (T : Mat) (w : List Int) (k : Nat) : Prop := TT.Ln T.length (wt T) (w.map ix) k
theorem fall_none {r : List Int} (h : fall r = []) {c : Nat} (hc : c < r.length) : 0 ≤ r.getD c 0 := by
  unfold fall at h
  have h2 := List.map_eq_nil_iff.mp h
  by_cases q : r.getD c 0 < 0
  · have : c ∈ (List.range r.length).filter fun i => decide (r.getD i 0 < 0) := List.mem_filter.mpr ⟨List.mem_range.mpr hc, decide_eq_true q⟩
    rw [h2] at this
    cases this
  · omega
theorem LN.none {T : Mat} (ht : Tab T) {w : List Int} (hw : Wd T.length w) {k : Nat} (h : LN T w k) (hf : fall (row T w) = []) : k = 0 ∧ row T w = one T := by
  have hk : k = 0 := h.of_pos (car_of ht) (lets_of hw) fun c hc => by
    have h1 := fall_none hf (c := c) (by rw [row_length]; exact hc)
    have h2 := row_nz ht hw hc
    rw [row_hv hw hc] at h1 h2
    omega
  refine ⟨hk, ext_getD (by rw [row_length, one_len]) fun j hj => ?_⟩
  rw [row_length] at hj
  rw [row_hv hw hj]
  subst hk
  rw [h.zero j hj]
  unfold one
  rw [List.getD_eq_getElem?_getD, List.getElem?_replicate, if_pos hj]
  rfl
theorem LN.step {T : Mat} (ht : Tab T) {w : List Int} (hw : Wd T.length w) {k : Nat} (h : LN T w k) {a : Int} (ha : a ∈ fall (row T w)) : ∃ j, k = j + 1 ∧ LN T (w ++ [a]) j ∧ Wd T.length (w ++ [a]) ∧ press T (row T w) (ix a) = row T (w ++ [a]) := by
  obtain ⟨i, rfl, hi, hn⟩ := fall_mem ha
  rw [row_length] at hi
  have ei : ix ((i : Int) + 1) = i := by unfold ix; omega
  rw [row_hv hw hi] at hn
  obtain ⟨j, e, hj⟩ := h.down (car_of ht) hi (lets_of hw) hn
  refine ⟨j, e, ?_, wd_app hw (wd_one hi), row_snoc.symm⟩
  show TT.Ln T.length (wt T) ((w ++ [(i : Int) + 1]).map ix) j
  rw [List.map_append, List.map_cons, List.map_nil, ei]
  exact hj
theorem wd_len {T : Mat} (ht : Tab T) : ∀ (k : Nat) {w : List Int} {f : Nat}, Wd T.length w → LN T w k → k ≤ f → (wd T f (row T w)).1.length = k ∧ (wd T f (row T w)).2 = one T
  | k, w, f, hw, h, hf => by
    cases e : fall (row T w) with
    | nil =>
      obtain ⟨rfl, e2⟩ := h.none ht hw e
      rw [wd_nil e]
      exact ⟨rfl, e2⟩
    | cons a q =>
      obtain ⟨j, rfl, h1, h2, h3⟩ := h.step ht hw (a := a) (by rw [e]; exact List.mem_cons_self)
      obtain ⟨g, rfl⟩ : ∃ g, f = g + 1 := ⟨f - 1, by omega⟩
      rw [wd_cons e, h3]
      obtain ⟨i1, i2⟩ := wd_len ht j (f := g) h2 h1 (by omega)
      refine ⟨?_, i2⟩
      show (wd T g (row T (w ++ [a]))).1.length + 1 = j + 1
      rw [i1]
theorem LN.has {T : Mat} {w : List Int} (hw : Wd T.length w) : ∃ k, LN T w k ∧ k ≤ w.length := by
  obtain ⟨k, h⟩ := TT.Ln.has (W := wt T) (lets_of hw)
  exact ⟨k, h, by have := h.le_len (lets_of hw); rw [List.length_map] at this; exact this⟩
section
variable {n : Nat} {W : Nat → Nat → Int}
theorem sgV_b (C : TT.Car n W) {b c : Nat} (hb : b < n) (hc : c < n) (ne : c ≠ b) {x : TT.Vec} {s t : Int} : TT.sg n W b (TT.VV x b c s t) = TT.VV x b c (TT.pr n W b x - s + W b c * t) t := by
  unfold TT.sg
  rw [TT.pr_mv hc, TT.pr_mv hb, C.dg b hb, TT.mv_comm ne, TT.mv_mv]
  congr 2
  omega
theorem sgV_c (C : TT.Car n W) {b c : Nat} (hb : b < n) (hc : c < n) {x : TT.Vec} {s t : Int} : TT.sg n W c (TT.VV x b c s t) = TT.VV x b c s (TT.pr n W c x + W c b * s - t) := by
  unfold TT.sg
  rw [TT.pr_mv hc, TT.pr_mv hb, C.dg c hc, TT.mv_mv]
  congr 1
  omega
theorem V00 {b c : Nat} {x : TT.Vec} : x = TT.VV x b c 0 0 := by
  show x = TT.mv (TT.mv x 0 b) 0 c
  rw [TT.mv_zero, TT.mv_zero]
def alN (a b : Nat) : Nat → List Nat
  | 0 => []
  | k + 1 => a :: alN b a k
theorem braid (C : TT.Car n W) {b c : Nat} (hb : b < n) (hc : c < n) (ne : b ≠ c) {m : Nat} (hm : (m = 2 ∧ W b c = 0 ∧ W c b = 0) ∨ (m = 3 ∧ W b c = 1 ∧ W c b = 1) ∨ (m = 4 ∧ W b c = 1 ∧ W c b = 2) ∨ (m = 4 ∧ W b c = 2 ∧ W c b = 1) ∨ (m = 6 ∧ W b c = 1 ∧ W c b = 3) ∨ (m = 6 ∧ W b c = 3 ∧ W c b = 1)) (x : TT.Vec) :
    TT.act n W (alN b c m) x = TT.act n W (alN c b m) x := by
  have hB := fun s t => sgV_b C hb hc (fun z => ne z.symm) (x := x) (s := s) (t := t)
  have hC := fun s t => sgV_c C hb hc (x := x) (s := s) (t := t)
  have h0 := V00 (b := b) (c := c) (x := x)
  generalize TT.pr n W b x = P at hB
  generalize TT.pr n W c x = Q at hC
  generalize hV : TT.VV x b c = V at *
  rcases hm with ⟨rfl, u, v⟩ | ⟨rfl, u, v⟩ | ⟨rfl, u, v⟩ | ⟨rfl, u, v⟩ | ⟨rfl, u, v⟩ | ⟨rfl, u, v⟩ <;> rw [u] at hB <;> rw [v] at hC <;> rw [h0] <;> unfold TT.act <;> simp only [alN, List.foldr_cons, List.foldr_nil, hB, hC] <;> congr 1 <;> omega
end
end BW
namespace BW
open PySem L2 DL
theorem alt_succ (a b : Int) (n : Nat) : alt a b (n + 1) = a :: alt b a n := by
  unfold alt
  rw [List.range_succ_eq_map, List.map_cons, List.map_map]
  congr 1
  refine List.map_congr_left fun i _ => ?_
  show (if (i + 1) % 2 = 0 then a else b) = if i % 2 = 0 then b else a
  by_cases h : i % 2 = 0
  · rw [if_pos h, if_neg (by omega)]
  · rw [if_neg h, if_pos (by omega)]
theorem alt_ix (i j : Nat) : ∀ n, (alt ((i : Int) + 1) ((j : Int) + 1) n).map ix = alN i j n
  | 0 => rfl
  | n + 1 => by
    rw [alt_succ, List.map_cons, alt_ix j i n]
    show ix ((i : Int) + 1) :: _ = i :: _
    rw [ix_succ]
theorem alt_wd {n : Nat} {a b : Int} (ha : 1 ≤ a ∧ a ≤ n) (hb : 1 ≤ b ∧ b ≤ n) (m : Nat) : Wd n (alt a b m) := fun z hz => by
  unfold alt at hz
  obtain ⟨i, _, rfl⟩ := List.mem_map.mp hz
  split
  · exact ha
  · exact hb
theorem pl_alt {T : Mat} (ht : Tab T) {r : List Int} (hr : r.length = T.length) {i j : Nat} (hi : i < T.length) (hj : j < T.length) (ne : i ≠ j) (h : 0 < at2 T i j) :
    pl T r (alt ((i : Int) + 1) ((j : Int) + 1) (at2 T i j).toNat) = pl T r (alt ((j : Int) + 1) ((i : Int) + 1) (at2 T i j).toNat) := by
  refine ext_getD (by rw [pl_len hr, pl_len hr]) fun c hc => ?_
  rw [pl_len hr] at hc
  have a1 : Wd T.length (alt ((i : Int) + 1) ((j : Int) + 1) (at2 T i j).toNat) := alt_wd ⟨by omega, by omega⟩ ⟨by omega, by omega⟩ _
  have a2 : Wd T.length (alt ((j : Int) + 1) ((i : Int) + 1) (at2 T i j).toNat) := alt_wd ⟨by omega, by omega⟩ ⟨by omega, by omega⟩ _
  have hm : ((at2 T i j).toNat = 2 ∧ wt T i j = 0 ∧ wt T j i = 0) ∨ ((at2 T i j).toNat = 3 ∧ wt T i j = 1 ∧ wt T j i = 1) ∨ ((at2 T i j).toNat = 4 ∧ wt T i j = 1 ∧ wt T j i = 2) ∨ ((at2 T i j).toNat = 4 ∧ wt T i j = 2 ∧ wt T j i = 1) ∨ ((at2 T i j).toNat = 6 ∧ wt T i j = 1 ∧ wt T j i = 3) ∨ ((at2 T i j).toNat = 6 ∧ wt T i j = 3 ∧ wt T j i = 1) := by
    rcases wt_two ht hi hj ne with ⟨e, u, v⟩ | ⟨e, u, v⟩ | ⟨e, u, v⟩ | ⟨e, u, v⟩ | ⟨e, u, v⟩ | ⟨e, u, v⟩ | ⟨e, u, v⟩
    · exact .inl ⟨by rw [e]; rfl, u, v⟩
    · exact .inr (.inl ⟨by rw [e]; rfl, u, v⟩)
    · exact .inr (.inr (.inl ⟨by rw [e]; rfl, u, v⟩))
    · exact .inr (.inr (.inr (.inl ⟨by rw [e]; rfl, u, v⟩)))
    · exact .inr (.inr (.inr (.inr (.inl ⟨by rw [e]; rfl, u, v⟩))))
    · exact .inr (.inr (.inr (.inr (.inr ⟨by rw [e]; rfl, u, v⟩))))
    · rw [e] at h; exact absurd h (by decide)
  rw [← pg_eb hc, ← pg_eb hc, pg_pl a1, pg_pl a2, alt_ix, alt_ix, braid (car_of ht) hi hj ne hm]
end BW
namespace BW
open PySem L2 DL
theorem step2 {T : Mat} (ht : Tab T) {w : List Int} (hw : Wd T.length w) {k : Nat} (h : LN T w k) {i j : Nat} (hi : i < T.length) (hj : j < T.length) {x y u : Int} (ex : (row T w).getD i 0 = x) (ey : (row T w).getD j 0 = y) (eu : wt T i j = u) (nx : x < 0) :
    ∃ l, k = l + 1 ∧ LN T (w ++ [(i : Int) + 1]) l ∧ Wd T.length (w ++ [(i : Int) + 1]) ∧ (row T (w ++ [(i : Int) + 1])).getD i 0 = -x ∧ (row T (w ++ [(i : Int) + 1])).getD j 0 = y + u * x := by
  have em : (w ++ [(i : Int) + 1]).map ix = w.map ix ++ [i] := by rw [List.map_append, List.map_cons, List.map_nil, ix_succ]
  have hn : TT.hv T.length (wt T) (w.map ix) i < 0 := by rw [← row_hv hw hi, ex]; exact nx
  obtain ⟨l, e, hl⟩ := h.down (car_of ht) hi (lets_of hw) hn
  have e1 : wt T i i = -2 := by unfold wt; rw [if_pos rfl]
  refine ⟨l, e, ?_, wd_app hw (wd_one hi), ?_, ?_⟩
  · show TT.Ln T.length (wt T) ((w ++ [(i : Int) + 1]).map ix) l
    rw [em]
    exact hl
  · rw [row_snoc, ix_succ, press_get hi, ex, e1]
    omega
  · rw [row_snoc, ix_succ, press_get hj, ex, ey, eu]
theorem LN.one_of {T : Mat} (ht : Tab T) {w : List Int} (hw : Wd T.length w) (h : LN T w 0) {i : Nat} (hi : i < T.length) : (row T w).getD i 0 = 1 := by
  rw [row_hv hw hi]
  exact TT.Ln.zero h i hi
theorem no_free {T : Mat} (ht : Tab T) {i j : Nat} (hi : i < T.length) (hj : j < T.length) (eu : wt T i j = 2) (ev : wt T j i = 2) : ∀ (k : Nat) {w : List Int}, Wd T.length w → LN T w k → (row T w).getD i 0 + (row T w).getD j 0 < 0 → False
  | 0, w, hw, h, s => by rw [h.one_of ht hw hi, h.one_of ht hw hj] at s; omega
  | k + 1, w, hw, h, s => by
    by_cases c : (row T w).getD i 0 < 0
    · obtain ⟨l, e, h1, h2, h3, h4⟩ := step2 ht hw h hi hj rfl rfl eu c
      obtain rfl : k = l := by omega
      exact no_free ht hi hj eu ev k h2 h1 (by rw [h3, h4]; omega)
    · obtain ⟨l, e, h1, h2, h3, h4⟩ := step2 ht hw h hj hi rfl rfl ev (by omega : (row T w).getD j 0 < 0)
      obtain rfl : k = l := by omega
      exact no_free ht hi hj eu ev k h2 h1 (by rw [h3, h4]; omega)
inductive Dn (T : Mat) : Nat → Nat → Nat → List Int → Nat → Prop
  | zero {i j : Nat} {w : List Int} {k : Nat} : LN T w k → Dn T i j 0 w k
  | succ {i j m : Nat} {w : List Int} {k : Nat} : Dn T j i m (w ++ [(i : Int) + 1]) k → Dn T i j (m + 1) w (k + 1)
theorem Dn.end_ {T : Mat} : ∀ {m i j : Nat} {w : List Int} {k : Nat}, Dn T i j m w k → ∃ l, k = l + m ∧ LN T (w ++ alt ((i : Int) + 1) ((j : Int) + 1) m) l
  | 0, i, j, w, k, h => by
    cases h with
    | zero h => exact ⟨k, rfl, by rw [show alt ((i : Int) + 1) ((j : Int) + 1) 0 = [] from rfl, List.append_nil]; exact h⟩
  | m + 1, i, j, w, _, h => by
    cases h with
    | succ h =>
      obtain ⟨l, e, hl⟩ := h.end_
      refine ⟨l, by omega, ?_⟩
      rw [alt_succ, show w ++ ((i : Int) + 1) :: alt ((j : Int) + 1) ((i : Int) + 1) m = (w ++ [(i : Int) + 1]) ++ alt ((j : Int) + 1) ((i : Int) + 1) m by rw [List.append_assoc]; rfl]
      exact hl
theorem dn_two {T : Mat} (ht : Tab T) {w : List Int} (hw : Wd T.length w) {k : Nat} (h : LN T w k) {i j : Nat} (hi : i < T.length) (hj : j < T.length) (ne : i ≠ j) (ni : (row T w).getD i 0 < 0) (nj : (row T w).getD j 0 < 0) :
    0 < at2 T i j ∧ Dn T i j (at2 T i j).toNat w k := by
  generalize ex : (row T w).getD i 0 = x at ni
  generalize ey : (row T w).getD j 0 = y at nj
  rcases wt_two ht hi hj ne with ⟨e, u, v⟩ | ⟨e, u, v⟩ | ⟨e, u, v⟩ | ⟨e, u, v⟩ | ⟨e, u, v⟩ | ⟨e, u, v⟩ | ⟨e, u, v⟩
  · rw [e]
    refine ⟨by decide, ?_⟩
    obtain ⟨k1, rfl, h1, w1, x1, y1⟩ := step2 ht hw h hi hj ex ey u ni
    obtain ⟨k2, rfl, h2, w2, x2, y2⟩ := step2 ht w1 h1 hj hi y1 x1 v (by omega)
    exact .succ (.succ (.zero h2))
  · rw [e]
    refine ⟨by decide, ?_⟩
    obtain ⟨k1, rfl, h1, w1, x1, y1⟩ := step2 ht hw h hi hj ex ey u ni
    obtain ⟨k2, rfl, h2, w2, x2, y2⟩ := step2 ht w1 h1 hj hi y1 x1 v (by omega)
    obtain ⟨k3, rfl, h3, w3, x3, y3⟩ := step2 ht w2 h2 hi hj y2 x2 u (by omega)
    exact .succ (.succ (.succ (.zero h3)))
  · rw [e]
    refine ⟨by decide, ?_⟩
    obtain ⟨k1, rfl, h1, w1, x1, y1⟩ := step2 ht hw h hi hj ex ey u ni
    obtain ⟨k2, rfl, h2, w2, x2, y2⟩ := step2 ht w1 h1 hj hi y1 x1 v (by omega)
    obtain ⟨k3, rfl, h3, w3, x3, y3⟩ := step2 ht w2 h2 hi hj y2 x2 u (by omega)
    obtain ⟨k4, rfl, h4, w4, x4, y4⟩ := step2 ht w3 h3 hj hi y3 x3 v (by omega)
    exact .succ (.succ (.succ (.succ (.zero h4))))
  · rw [e]
    refine ⟨by decide, ?_⟩
    obtain ⟨k1, rfl, h1, w1, x1, y1⟩ := step2 ht hw h hi hj ex ey u ni
    obtain ⟨k2, rfl, h2, w2, x2, y2⟩ := step2 ht w1 h1 hj hi y1 x1 v (by omega)
    obtain ⟨k3, rfl, h3, w3, x3, y3⟩ := step2 ht w2 h2 hi hj y2 x2 u (by omega)
    obtain ⟨k4, rfl, h4, w4, x4, y4⟩ := step2 ht w3 h3 hj hi y3 x3 v (by omega)
    exact .succ (.succ (.succ (.succ (.zero h4))))
  · rw [e]
    refine ⟨by decide, ?_⟩
    obtain ⟨k1, rfl, h1, w1, x1, y1⟩ := step2 ht hw h hi hj ex ey u ni
    obtain ⟨k2, rfl, h2, w2, x2, y2⟩ := step2 ht w1 h1 hj hi y1 x1 v (by omega)
    obtain ⟨k3, rfl, h3, w3, x3, y3⟩ := step2 ht w2 h2 hi hj y2 x2 u (by omega)
    obtain ⟨k4, rfl, h4, w4, x4, y4⟩ := step2 ht w3 h3 hj hi y3 x3 v (by omega)
    obtain ⟨k5, rfl, h5, w5, x5, y5⟩ := step2 ht w4 h4 hi hj y4 x4 u (by omega)
    obtain ⟨k6, rfl, h6, w6, x6, y6⟩ := step2 ht w5 h5 hj hi y5 x5 v (by omega)
    exact .succ (.succ (.succ (.succ (.succ (.succ (.zero h6))))))
  · rw [e]
    refine ⟨by decide, ?_⟩
    obtain ⟨k1, rfl, h1, w1, x1, y1⟩ := step2 ht hw h hi hj ex ey u ni
    obtain ⟨k2, rfl, h2, w2, x2, y2⟩ := step2 ht w1 h1 hj hi y1 x1 v (by omega)
    obtain ⟨k3, rfl, h3, w3, x3, y3⟩ := step2 ht w2 h2 hi hj y2 x2 u (by omega)
    obtain ⟨k4, rfl, h4, w4, x4, y4⟩ := step2 ht w3 h3 hj hi y3 x3 v (by omega)
    obtain ⟨k5, rfl, h5, w5, x5, y5⟩ := step2 ht w4 h4 hi hj y4 x4 u (by omega)
    obtain ⟨k6, rfl, h6, w6, x6, y6⟩ := step2 ht w5 h5 hj hi y5 x5 v (by omega)
    exact .succ (.succ (.succ (.succ (.succ (.succ (.zero h6))))))
  · exact (no_free ht hi hj u v k hw h (by rw [ex, ey]; omega)).elim
theorem row_alt {T : Mat} (ht : Tab T) {w : List Int} (hw : Wd T.length w) {i j : Nat} (hi : i < T.length) (hj : j < T.length) (ne : i ≠ j) (h : 0 < at2 T i j) :
    row T (w ++ alt ((i : Int) + 1) ((j : Int) + 1) (at2 T i j).toNat) = row T (w ++ alt ((j : Int) + 1) ((i : Int) + 1) (at2 T i j).toNat) := by
  have q := pl_alt ht (r := row T w) (row_length T w) hi hj ne h
  unfold pl at q
  unfold row at q ⊢
  rw [List.foldl_append, List.foldl_append]
  exact q
end BW
namespace BW
open PySem L2 DL
theorem mem_fall {r : List Int} {i : Nat} (hi : i < r.length) : ((i : Int) + 1) ∈ fall r ↔ r.getD i 0 < 0 := by
  unfold fall
  rw [List.mem_map]
  constructor
  · rintro ⟨j, hj, e⟩
    obtain ⟨_, h2⟩ := List.mem_filter.mp hj
    have : j = i := by omega
    rw [← this]
    exact of_decide_eq_true h2
  · intro h
    exact ⟨i, List.mem_filter.mpr ⟨List.mem_range.mpr hi, decide_eq_true h⟩, rfl⟩
theorem LN.more {T : Mat} (ht : Tab T) {w : List Int} (hw : Wd T.length w) {k : Nat} (h : LN T w k) {i : Nat} (hi : i < T.length) :
    if ((i : Int) + 1) ∈ fall (row T w) then 1 ≤ k ∧ LN T (w ++ [(i : Int) + 1]) (k - 1) else LN T (w ++ [(i : Int) + 1]) (k + 1) := by
  have em : (w ++ [(i : Int) + 1]).map ix = w.map ix ++ [i] := by rw [List.map_append, List.map_cons, List.map_nil, ix_succ]
  have hr : i < (row T w).length := by rw [row_length]; exact hi
  by_cases c : ((i : Int) + 1) ∈ fall (row T w)
  · rw [if_pos c]
    obtain ⟨j, e, hj, _, _⟩ := h.step ht hw c
    exact ⟨by omega, by rw [e]; exact hj⟩
  · rw [if_neg c]
    have nz := row_nz ht hw hi
    have np : 0 < TT.hv T.length (wt T) (w.map ix) i := by
      rw [← row_hv hw hi]
      have := (not_congr (mem_fall hr)).mp c
      omega
    show TT.Ln T.length (wt T) ((w ++ [(i : Int) + 1]).map ix) (k + 1)
    rw [em]
    exact TT.Ln.up (car_of ht) hi (lets_of hw) h np
theorem len60 {T : Mat} (ht : Tab T) {w : List Int} (hw : Wd T.length w) {k : Nat} (h : LN T w k) (hk : k ≤ 60) : (wd T 60 (row T w)).1.length = k := (wd_len ht k hw h hk).1
theorem inV_mem {a : Int} : ∀ {ns : List Int}, inV (D.int a).v ((ns.map D.int).map D.v) = decide (a ∈ ns)
  | [] => rfl
  | b :: r => by
    have ih := inV_mem (a := a) (ns := r)
    unfold inV at ih ⊢
    rw [List.map_cons, List.map_cons, List.any_cons, ih]
    show ((b == a) || _) = _
    by_cases e : a = b
    · subst e; simp
    · have : (b == a) = false := by simpa using fun z => e z.symm
      rw [this]
      simp [e]
end BW
namespace BW
open PySem L2 DL
def Tn1 (T : Mat) (u v : List Int) : Prop := ∃ (p s : List Int) (i j : Nat), i < T.length ∧ j < T.length ∧ i ≠ j ∧ 0 < at2 T i j ∧ u = p ++ alt ((i : Int) + 1) ((j : Int) + 1) (at2 T i j).toNat ++ s ∧ v = p ++ alt ((j : Int) + 1) ((i : Int) + 1) (at2 T i j).toNat ++ s
inductive Tn (T : Mat) : List Int → List Int → Prop
  | refl {u : List Int} : Tn T u u
  | step {u v w : List Int} : Tn1 T u v → Tn T v w → Tn T u w
theorem Tn.trans {T : Mat} {u v w : List Int} (h : Tn T u v) (g : Tn T v w) : Tn T u w := by
  induction h with
  | refl => exact g
  | step a _ ih => exact .step a (ih g)
theorem Tn1.symm {T : Mat} (ht : Tab T) {u v : List Int} (h : Tn1 T u v) : Tn1 T v u := by
  obtain ⟨p, s, i, j, hi, hj, ne, b, e1, e2⟩ := h
  have sy := ht.sy i j hi hj
  exact ⟨p, s, j, i, hj, hi, fun z => ne z.symm, by rw [← sy]; exact b, by rw [← sy]; exact e2, by rw [← sy]; exact e1⟩
theorem Tn.symm {T : Mat} (ht : Tab T) {u v : List Int} (h : Tn T u v) : Tn T v u := by
  induction h with
  | refl => exact .refl
  | step a _ ih => exact ih.trans (.step (a.symm ht) .refl)
theorem Tn1.app {T : Mat} {u v : List Int} (h : Tn1 T u v) (z : List Int) : Tn1 T (u ++ z) (v ++ z) := by
  obtain ⟨p, s, i, j, hi, hj, ne, b, e1, e2⟩ := h
  exact ⟨p, s ++ z, i, j, hi, hj, ne, b, by rw [e1, List.append_assoc], by rw [e2, List.append_assoc]⟩
theorem Tn.app {T : Mat} {u v : List Int} (h : Tn T u v) (z : List Int) : Tn T (u ++ z) (v ++ z) := by
  induction h with
  | refl => exact .refl
  | step a _ ih => exact .step (a.app z) ih
theorem alt_rev {T : Mat} (ht : Tab T) {i j : Nat} (hi : i < T.length) (hj : j < T.length) (ne : i ≠ j) (h : 0 < at2 T i j) :
    ((alt ((i : Int) + 1) ((j : Int) + 1) (at2 T i j).toNat).reverse = alt ((i : Int) + 1) ((j : Int) + 1) (at2 T i j).toNat ∧ (alt ((j : Int) + 1) ((i : Int) + 1) (at2 T i j).toNat).reverse = alt ((j : Int) + 1) ((i : Int) + 1) (at2 T i j).toNat) ∨
    ((alt ((i : Int) + 1) ((j : Int) + 1) (at2 T i j).toNat).reverse = alt ((j : Int) + 1) ((i : Int) + 1) (at2 T i j).toNat ∧ (alt ((j : Int) + 1) ((i : Int) + 1) (at2 T i j).toNat).reverse = alt ((i : Int) + 1) ((j : Int) + 1) (at2 T i j).toNat) := by
  rcases ht.of i j hi hj ne with e | e | e | e | e
  · rw [e]; exact .inr ⟨rfl, rfl⟩
  · rw [e]; exact .inl ⟨rfl, rfl⟩
  · rw [e]; exact .inr ⟨rfl, rfl⟩
  · rw [e]; exact .inr ⟨rfl, rfl⟩
  · rw [e] at h; exact absurd h (by decide)
theorem LN.cong {T : Mat} {u v : List Int} (hu : Wd T.length u) (hv : Wd T.length v) {k : Nat} (h : LN T u k) (e : row T u = row T v) : LN T v k := TT.Ln.cong h ((row_eq_iff hu hv).mp e)
theorem LN.uniq {T : Mat} {u : List Int} {j k : Nat} (a : LN T u j) (b : LN T u k) : j = k := TT.Ln.uniq a b
abbrev Sh (T : Mat) (w : List Int) : Prop := LN T w w.length
theorem row_app {T : Mat} {u v z : List Int} (e : row T u = row T v) : row T (u ++ z) = row T (v ++ z) := by
  unfold row at e ⊢
  rw [List.foldl_append, List.foldl_append, e]
theorem row_undo {T : Mat} (ht : Tab T) {w : List Int} {i : Nat} (hi : i < T.length) : row T (w ++ [(i : Int) + 1] ++ [(i : Int) + 1]) = row T w := by
  have e1 : wt T i i = -2 := by unfold wt; rw [if_pos rfl]
  refine ext_getD (by rw [row_length, row_length]) fun c hc => ?_
  rw [row_length] at hc
  rw [row_snoc, row_snoc, ix_succ, press_get hc, press_get hc, press_get hi, e1]
  rw [show (row T w).getD i 0 + -2 * (row T w).getD i 0 = -((row T w).getD i 0) by omega, Int.mul_neg]
  omega
theorem row_cancel {T : Mat} (ht : Tab T) {u v : List Int} {i : Nat} (hi : i < T.length) (e : row T (u ++ [(i : Int) + 1]) = row T (v ++ [(i : Int) + 1])) : row T u = row T v := by
  have := row_app (z := [(i : Int) + 1]) e
  rw [row_undo ht hi, row_undo ht hi] at this
  exact this
theorem Sh.last {T : Mat} (ht : Tab T) {w : List Int} {i : Nat} (hi : i < T.length) (hw : Wd T.length w) (h : Sh T (w ++ [(i : Int) + 1])) : (row T (w ++ [(i : Int) + 1])).getD i 0 < 0 ∧ Sh T w := by
  obtain ⟨k, hk, hl⟩ := LN.has hw
  have m := LN.more ht hw hk hi
  have el : (w ++ [(i : Int) + 1]).length = w.length + 1 := by rw [List.length_append]; rfl
  have e1 : wt T i i = -2 := by unfold wt; rw [if_pos rfl]
  by_cases c : ((i : Int) + 1) ∈ fall (row T w)
  · rw [if_pos c] at m
    have := h.uniq m.2
    omega
  · rw [if_neg c] at m
    have := h.uniq m
    have ek : k = w.length := by omega
    have nz := row_nz ht hw hi
    have nn := (not_congr (mem_fall (r := row T w) (i := i) (by rw [row_length]; exact hi))).mp c
    refine ⟨?_, by rw [ek] at hk; exact hk⟩
    rw [row_snoc, ix_succ, press_get hi, e1]
    omega
theorem snoc_cases {T : Mat} {w : List Int} (hw : Wd T.length w) : w = [] ∨ ∃ (v : List Int) (i : Nat), i < T.length ∧ Wd T.length v ∧ w = v ++ [(i : Int) + 1] := by
  rcases List.eq_nil_or_concat w with e | ⟨v, a, e⟩
  · exact .inl e
  · rw [List.concat_eq_append] at e
    subst e
    have ha := hw a (by simp)
    refine .inr ⟨v, (a - 1).toNat, by omega, fun z hz => hw z (by simp [hz]), ?_⟩
    rw [show ((a - 1).toNat : Int) + 1 = a by omega]
theorem alt_pos {T : Mat} (ht : Tab T) {i j : Nat} (hi : i < T.length) (hj : j < T.length) (ne : i ≠ j) (h : 0 < at2 T i j) : ∃ m, (at2 T i j).toNat = m + 1 := ⟨(at2 T i j).toNat - 1, by omega⟩
end BW
namespace BW
open PySem L2 DL
def Ou1 (u v : List Int) : Prop := ∃ (p s : List Int) (a : Int), u = p ++ [a, a] ++ s ∧ v = p ++ s
inductive Led (T : Mat) : List Int → List Int → Prop
  | refl {u : List Int} : Led T u u
  | turn {u v w : List Int} : Tn1 T u v → Led T v w → Led T u w
  | out {u v w : List Int} : Ou1 u v → Led T v w → Led T u w
theorem Led.trans {T : Mat} {u v w : List Int} (h : Led T u v) (g : Led T v w) : Led T u w := by
  induction h with
  | refl => exact g
  | turn a _ ih => exact .turn a (ih g)
  | out a _ ih => exact .out a (ih g)
theorem Tn.led {T : Mat} {u v : List Int} (h : Tn T u v) : Led T u v := by
  induction h with
  | refl => exact .refl
  | step a _ ih => exact .turn a ih
theorem Led.app {T : Mat} {u v : List Int} (h : Led T u v) (z : List Int) : Led T (u ++ z) (v ++ z) := by
  induction h with
  | refl => exact .refl
  | turn a _ ih => exact .turn (a.app z) ih
  | out a _ ih =>
    obtain ⟨p, s, a, e1, e2⟩ := a
    exact .out ⟨p, s ++ z, a, by rw [e1, List.append_assoc], by rw [e2, List.append_assoc]⟩ ih
end BW
namespace BW
open PySem L2 DL
theorem shw_ints : ∀ {ns : List Int}, (∀ a ∈ ns, a.natAbs.log2 < 1920) → plainA (ns.map D.int) = true ∧ shwA (ns.map D.int) = true ∧ wgA (ns.map D.int) = 1923 * ns.length ∧ PyData.depthAll (pyA (ns.map D.int)) = 0
  | [], _ => ⟨rfl, rfl, rfl, rfl⟩
  | a :: r, h => by
    obtain ⟨h1, h2, h3, h4⟩ := shw_ints (ns := r) fun z hz => h z (List.mem_cons_of_mem _ hz)
    refine ⟨h1, ?_, ?_, ?_⟩
    · show (decide (a.natAbs.log2 < 1920) && shwA (r.map D.int)) = true
      rw [decide_eq_true (h a List.mem_cons_self), h2]; rfl
    · show 1921 + 2 + wgA (r.map D.int) = _
      rw [h3, List.length_cons]
      omega
    · show max 0 (PyData.depthAll (pyA (r.map D.int))) = 0
      rw [h4]; rfl
theorem small_log {a : Int} (h : -(2 ^ 300) < a ∧ a < 2 ^ 300) : a.natAbs.log2 < 1920 := by
  by_cases z : a.natAbs = 0
  · rw [z]; decide
  · have := (Nat.log2_lt (n := a.natAbs) (k := 300) z).mpr (by omega)
    omega
end BW
namespace BW
open PySem L2 DL
def lw (T : Mat) (w : List Int) : List Int := (wd T 60 (row T w.reverse)).1
def shown (T : Mat) (w : List Int) : List D := [tI (row T w), .int (wd T 60 (row T w)).1.length, tI (fall (row T w.reverse)), tI (fall (row T w)), tI (lw T w)]
theorem LN.par {T : Mat} (ht : Tab T) : ∀ (n : Nat) {w : List Int} {k : Nat}, w.length = n → Wd T.length w → LN T w k → k % 2 = n % 2
  | 0, w, k, hl, hw, h => by
    obtain ⟨j, hj, hj2⟩ := LN.has hw
    have := LN.uniq h hj
    omega
  | n + 1, w, k, hl, hw, h => by
    rcases snoc_cases hw with rfl | ⟨v, i, hi, wv, rfl⟩
    · cases hl
    · rw [List.length_append, List.length_singleton] at hl
      obtain ⟨j, hj, hj2⟩ := LN.has wv
      have ih := LN.par ht n (by omega : v.length = n) wv hj
      have m := LN.more ht wv hj hi
      by_cases c : ((i : Int) + 1) ∈ fall (row T v)
      · rw [if_pos c] at m
        have := LN.uniq h m.2
        omega
      · rw [if_neg c] at m
        have := LN.uniq h m
        omega
theorem mv_row {T : Mat} (ht : Tab T) {w v : List Int} {e : Deed} (hw : Wd T.length w) (he : e.fits T.length w.length) (h : mv T w e = some v) : row T v = row T w := by
  cases e with
  | inn k a =>
    have h : (w.take k ++ [a, a]) ++ w.drop k = v := Option.some.inj h
    subst h
    obtain ⟨i, rfl⟩ : ∃ i : Nat, a = (i : Int) + 1 := ⟨(a - 1).toNat, by have := he.2; omega⟩
    have hi : i < T.length := by have := he.2; omega
    have e1 := row_app (z := w.drop k) (row_undo ht (w := w.take k) hi)
    rw [List.take_append_drop] at e1
    rw [← e1, List.append_assoc (w.take k) [(i : Int) + 1] [(i : Int) + 1]]
    rfl
  | out k =>
    rw [mv_out] at h
    split at h
    · rename_i c
      cases h
      obtain ⟨c1, c2⟩ := c
      have hk : k < w.length := by omega
      have ma := hw (w.getD k 0) (List.mem_of_getElem? (getD_get (d := 0) hk))
      obtain ⟨i, ei⟩ : ∃ i : Nat, w.getD k 0 = (i : Int) + 1 := ⟨(w.getD k 0 - 1).toNat, by omega⟩
      have hi : i < T.length := by omega
      have e1 := row_app (z := w.drop (k + 2)) (row_undo ht (w := w.take k) hi)
      rw [← e1]
      congr 1
      have d1 : w.drop k = w.getD k 0 :: w.drop (k + 1) := by
        rw [List.drop_eq_getElem_cons hk]
        congr 1
        rw [List.getD_eq_getElem?_getD, List.getElem?_eq_getElem hk]; rfl
      have d2 : w.drop (k + 1) = w.getD (k + 1) 0 :: w.drop (k + 2) := by
        rw [List.drop_eq_getElem_cons c1]
        congr 1
        rw [List.getD_eq_getElem?_getD, List.getElem?_eq_getElem c1]; rfl
      rw [List.append_assoc, List.append_assoc]
      conv => rhs; rw [← List.take_append_drop k w, d1, d2, ← c2, ei]
      rfl
    · cases h
  | turn k =>
    rw [mv_turn] at h
    split at h
    · rename_i c
      split at h
      · rename_i c2
        cases h
        obtain ⟨c1, cn⟩ := c
        obtain ⟨c3, c4⟩ := c2
        have hk : k < w.length := by omega
        have ma := hw (w.getD k 0) (List.mem_of_getElem? (getD_get (d := 0) hk))
        have mb := hw (w.getD (k + 1) 0) (List.mem_of_getElem? (getD_get (d := 0) c1))
        obtain ⟨i, ei⟩ : ∃ i : Nat, w.getD k 0 = (i : Int) + 1 := ⟨(w.getD k 0 - 1).toNat, by omega⟩
        obtain ⟨j, ej⟩ : ∃ j : Nat, w.getD (k + 1) 0 = (j : Int) + 1 := ⟨(w.getD (k + 1) 0 - 1).toNat, by omega⟩
        have hi : i < T.length := by omega
        have hj : j < T.length := by omega
        rw [ei, ej, ix_succ, ix_succ] at c3 c4 ⊢
        have ne : i ≠ j := fun z => cn (by rw [ei, ej, z])
        have hp : 0 < at2 T i j := by omega
        have e1 := row_app (z := w.drop (k + (at2 T i j).toNat)) (row_alt ht (w := w.take k) (fun z hz => hw z (List.mem_of_mem_take hz)) hi hj ne hp)
        rw [← e1]
        congr 1
        rw [← c4, List.append_assoc]
        conv => rhs; rw [← List.take_append_drop k w]
        congr 1
        rw [← List.drop_drop, List.take_append_drop]
      · cases h
    · cases h
end BW
set_option maxHeartbeats 1000000
namespace BW
open PySem L2 DL
def Ws (T : Mat) : List Int → List Deed → List Int → Prop
  | w, [], v => v = w
  | w, e :: r, v => ∃ k u, e = .turn k ∧ mv T w (.turn k) = some u ∧ Ws T u r v
theorem Ws.app {T : Mat} : ∀ {es fs : List Deed} {w u v : List Int}, Ws T w es u → Ws T u fs v → Ws T w (es ++ fs) v
  | [], fs, w, u, v, h, g => by
    have h : u = w := h
    subst h
    exact g
  | e :: r, fs, w, u, v, ⟨k, x, a, b, c⟩, g => ⟨k, x, a, b, Ws.app c g⟩
theorem mv_suf {T : Mat} {w u z : List Int} {k : Nat} (h : mv T w (.turn k) = some u) : mv T (w ++ z) (.turn k) = some (u ++ z) := by
  rw [mv_turn] at h ⊢
  split at h
  case isFalse => cases h
  rename_i c
  have g0 : (w ++ z).getD k 0 = w.getD k 0 := by rw [List.getD_eq_getElem?_getD, List.getD_eq_getElem?_getD, List.getElem?_append_left (by omega)]
  have g1 : (w ++ z).getD (k + 1) 0 = w.getD (k + 1) 0 := by rw [List.getD_eq_getElem?_getD, List.getD_eq_getElem?_getD, List.getElem?_append_left (by omega)]
  rw [g0, g1, if_pos ⟨by rw [List.length_append]; omega, c.2⟩]
  split at h
  case isFalse => cases h
  rename_i c2
  cases h
  have l := congrArg List.length c2.2
  rw [alt_length, List.length_take, List.length_drop] at l
  have d1 : (w ++ z).drop k = w.drop k ++ z := List.drop_append_of_le_length (by omega)
  have t1 : ((w ++ z).drop k).take (at2 T (ix (w.getD k 0)) (ix (w.getD (k + 1) 0))).toNat = (w.drop k).take (at2 T (ix (w.getD k 0)) (ix (w.getD (k + 1) 0))).toNat := by
    rw [d1, List.take_append_of_le_length (by rw [List.length_drop]; omega)]
  rw [t1, if_pos c2, List.take_append_of_le_length (by omega), List.drop_append_of_le_length (by omega), List.append_assoc (_ ++ _) _ z]
theorem Ws.suf {T : Mat} {z : List Int} : ∀ {es : List Deed} {w v : List Int}, Ws T w es v → Ws T (w ++ z) es (v ++ z)
  | [], w, v, h => by
    have h : v = w := h
    subst h
    rfl
  | e :: r, w, v, ⟨k, u, a, b, c⟩ => ⟨k, u ++ z, a, mv_suf b, Ws.suf c⟩
theorem Ws.all {T : Mat} (ht : Tab T) : ∀ {es : List Deed} {w v : List Int}, Ws T w es v → Wd T.length w → Wd T.length v ∧ v.length = w.length ∧ row T v = row T w
  | [], w, v, h, hw => by
    have h : v = w := h
    subst h
    exact ⟨hw, rfl, rfl⟩
  | e :: r, w, v, ⟨k, u, a, b, c⟩, hw => by
    have hu : Wd T.length u := mv_wd (e := .turn k) hw trivial b
    obtain ⟨h1, h2, h3⟩ := Ws.all ht c hu
    exact ⟨h1, h2.trans (mv_turn_len0 b), h3.trans (mv_row ht (e := .turn k) hw trivial b)⟩
where
  mv_turn_len0 {T : Mat} {w v : List Int} {k : Nat} (h : mv T w (.turn k) = some v) : v.length = w.length := by
    rw [mv_turn] at h
    split at h
    · rename_i c
      split at h
      · rename_i c2
        cases h
        have l := congrArg List.length c2.2
        rw [alt_length, List.length_take, List.length_drop] at l
        rw [List.length_append, List.length_append, alt_length, List.length_take, List.length_drop]
        omega
      · cases h
    · cases h
abbrev blS (f : List Int → Int → List Int × List Deed) (L : Nat) (a b : Int) (s0 : List Int × List Deed) : Nat → List Int × List Deed
  | 0 => s0
  | p + 1 => ((f ((blS f L a b s0 p).1.take (L - p)) (if p % 2 = 0 then a else b)).1 ++ (blS f L a b s0 p).1.drop (L - p), (blS f L a b s0 p).2 ++ (f ((blS f L a b s0 p).1.take (L - p)) (if p % 2 = 0 then a else b)).2)
def bl (T : Mat) : Nat → List Int → Int → List Int × List Deed
  | 0, w, _ => (w, [])
  | n + 1, w, a => if w.getLastD 0 = a then (w, []) else
    ((mv T (blS (bl T n) w.length (w.getLastD 0) a (w, []) (at2 T (ix (w.getLastD 0)) (ix a)).toNat).1 (.turn (w.length - (at2 T (ix (w.getLastD 0)) (ix a)).toNat))).getD (blS (bl T n) w.length (w.getLastD 0) a (w, []) (at2 T (ix (w.getLastD 0)) (ix a)).toNat).1,
      (blS (bl T n) w.length (w.getLastD 0) a (w, []) (at2 T (ix (w.getLastD 0)) (ix a)).toNat).2 ++ [.turn (w.length - (at2 T (ix (w.getLastD 0)) (ix a)).toNat)])
def sz (w : List Int) (a : Int) : Nat := 2 * w.length + if w.getLastD 0 = a then 0 else 1
theorem bl_same {T : Mat} {n : Nat} {w : List Int} {a : Int} (h : w.getLastD 0 = a) : bl T n w a = (w, []) := by
  cases n with
  | zero => rfl
  | succ n =>
    unfold bl
    rw [if_pos h]
theorem lastD_snoc (v : List Int) (a : Int) : (v ++ [a]).getLastD 0 = a := by
  rw [List.getLastD_eq_getLast?, List.getLast?_append]; rfl
structure Bq (T : Mat) (w : List Int) (j : Nat) : Prop where
  hj : j < T.length
  hw : Wd T.length w
  sh : Sh T w
  lo : (row T w).getD j 0 < 0
structure Br (T : Mat) (w : List Int) (j : Nat) (r : List Int × List Deed) : Prop where
  ws : Ws T w r.2 r.1
  last : ∃ v, r.1 = v ++ [(j : Int) + 1]
  few2 : 2 * r.2.length ≤ 2 ^ w.length
theorem Br.few {T : Mat} {w : List Int} {j : Nat} {r : List Int × List Deed} (h : Br T w j r) : r.2.length < 2 ^ w.length := by
  have := h.few2
  have := Nat.two_pow_pos w.length
  omega
theorem alt_snoc (a b : Int) (p : Nat) : alt a b (p + 1) = alt a b p ++ [if p % 2 = 0 then a else b] := by
  unfold alt
  rw [List.range_succ, List.map_append]
  rfl
theorem Bq.ne {T : Mat} {w : List Int} {j : Nat} (h : Bq T w j) : w ≠ [] := fun z => by
  subst z
  have := h.lo
  have e : row T [] = one T := rfl
  rw [e] at this
  unfold one at this
  rw [List.getD_eq_getElem?_getD, List.getElem?_replicate, if_pos h.hj] at this
  exact absurd this (by decide)
theorem Bq.own {T : Mat} (ht : Tab T) {w : List Int} {j : Nat} (h : Bq T w j) : ∃ (v : List Int) (i : Nat), i < T.length ∧ w = v ++ [(i : Int) + 1] ∧ w.getLastD 0 = (i : Int) + 1 ∧ (row T w).getD i 0 < 0 := by
  rcases snoc_cases h.hw with e | ⟨v, i, hi, hv, e⟩
  · exact absurd e h.ne
  · subst e
    exact ⟨v, i, hi, rfl, lastD_snoc v _, (Sh.last ht hi hv h.sh).1⟩
theorem LN.far {T : Mat} (ht : Tab T) : ∀ {z u : List Int} {k l : Nat}, Wd T.length u → Wd T.length z → LN T u k → LN T (u ++ z) l → k ≤ l + z.length
  | [], u, k, l, hu, hz, h, g => by
    rw [List.append_nil] at g
    have := h.uniq g
    show k ≤ l + 0
    omega
  | a :: z, u, k, l, hu, hz, h, g => by
    have ha := hz a List.mem_cons_self
    obtain ⟨i, rfl⟩ : ∃ i : Nat, a = (i : Int) + 1 := ⟨(a - 1).toNat, by omega⟩
    have hi : i < T.length := by omega
    have hu2 : Wd T.length (u ++ [(i : Int) + 1]) := wd_app hu (wd_one hi)
    have hz2 : Wd T.length z := fun b hb => hz b (List.mem_cons_of_mem _ hb)
    have e : u ++ (((i : Int) + 1) :: z) = (u ++ [(i : Int) + 1]) ++ z := by rw [List.append_assoc]; rfl
    rw [e] at g
    have m := LN.more ht hu h hi
    rw [List.length_cons]
    by_cases c : ((i : Int) + 1) ∈ fall (row T u)
    · rw [if_pos c] at m
      have := LN.far ht hu2 hz2 m.2 g
      have := m.1
      omega
    · rw [if_neg c] at m
      have := LN.far ht hu2 hz2 m g
      omega
theorem alt_cut (a b : Int) {p m : Nat} (h : p ≤ m) : alt a b m = alt a b p ++ (alt a b m).drop p := by
  have : (alt a b m).take p = alt a b p := by
    unfold alt
    rw [← List.map_take, List.take_range, Nat.min_eq_left h]
  rw [← this, List.take_append_drop]
theorem two_at {T : Mat} (ht : Tab T) {w : List Int} {i j : Nat} (hw : Wd T.length w) (hs : Sh T w) (hi : i < T.length) (hj : j < T.length) (ne : i ≠ j) (ni : (row T w).getD i 0 < 0) (nj : (row T w).getD j 0 < 0) :
    0 < at2 T i j ∧ (at2 T i j).toNat ≤ w.length ∧ ∀ p, p ≤ (at2 T i j).toNat → LN T (w ++ alt ((i : Int) + 1) ((j : Int) + 1) p) (w.length - p) := by
  obtain ⟨h0, hd⟩ := dn_two ht hw hs hi hj ne ni nj
  obtain ⟨l, e, hl⟩ := hd.end_
  refine ⟨h0, by omega, fun p hp => ?_⟩
  have wa : ∀ q, Wd T.length (alt ((i : Int) + 1) ((j : Int) + 1) q) := fun q => alt_wd ⟨by omega, by omega⟩ ⟨by omega, by omega⟩ q
  obtain ⟨kp, hkp, _⟩ := LN.has (wd_app hw (wa p))
  have f1 := LN.far ht hw (wa p) hs hkp
  rw [alt_length] at f1
  rw [alt_cut _ _ hp, ← List.append_assoc] at hl
  have f2 := LN.far ht (wd_app hw (wa p)) (fun b hb => wa _ b (List.mem_of_mem_drop hb)) hkp hl
  rw [List.length_drop, alt_length] at f2
  have : kp = w.length - p := by omega
  rw [this] at hkp
  exact hkp
theorem fall_of_less {T : Mat} (ht : Tab T) {u : List Int} {k i : Nat} (hu : Wd T.length u) (hi : i < T.length) (h : LN T u (k + 1)) (g : LN T (u ++ [(i : Int) + 1]) k) : (row T u).getD i 0 < 0 := by
  have m := LN.more ht hu h hi
  by_cases c : ((i : Int) + 1) ∈ fall (row T u)
  · exact (mem_fall (by rw [row_length]; exact hi)).mp c
  · rw [if_neg c] at m
    have := m.uniq g
    omega
structure Ip (T : Mat) (w : List Int) (i j p : Nat) (s : List Int × List Deed) : Prop where
  ws : Ws T w s.2 s.1
  ex : ∃ h, s.1 = h ++ (alt ((i : Int) + 1) ((j : Int) + 1) p).reverse ∧ h.length = w.length - p ∧ Wd T.length h ∧ row T h = row T (w ++ alt ((i : Int) + 1) ((j : Int) + 1) p)
  few : (p = 0 ∧ s.2.length = 0) ∨ (1 ≤ p ∧ 2 * s.2.length + 2 ^ (w.length - p + 1) ≤ 2 ^ w.length)
def xp (i j p : Nat) : Nat := if p % 2 = 0 then i else j
theorem xp_eq (i j p : Nat) : (if p % 2 = 0 then ((i : Int) + 1) else ((j : Int) + 1)) = ((xp i j p : Nat) : Int) + 1 := by
  unfold xp
  by_cases c : p % 2 = 0
  · rw [if_pos c, if_pos c]
  · rw [if_neg c, if_neg c]
section
variable {T : Mat} {w : List Int} {i j p : Nat} {s : List Int × List Deed}
theorem Ip.head (ht : Tab T) (hw : Wd T.length w) (hi : i < T.length) (hj : j < T.length) (I : Ip T w i j p s) (hp : p + 1 ≤ w.length) (l0 : LN T (w ++ alt ((i : Int) + 1) ((j : Int) + 1) p) (w.length - p)) (l1 : LN T (w ++ alt ((i : Int) + 1) ((j : Int) + 1) (p + 1)) (w.length - (p + 1))) :
    Bq T (s.1.take (w.length - p)) (xp i j p) ∧ (s.1.take (w.length - p)).length = w.length - p := by
  obtain ⟨h, e, lh, wh, rh⟩ := I.ex
  have et : s.1.take (w.length - p) = h := by rw [e, ← lh, List.take_left']; rfl
  rw [et]
  have wa : Wd T.length (alt ((i : Int) + 1) ((j : Int) + 1) p) := alt_wd ⟨by omega, by omega⟩ ⟨by omega, by omega⟩ p
  have hx : xp i j p < T.length := by unfold xp; split <;> assumption
  have sh : Sh T h := by
    have := l0.cong (wd_app hw wa) wh rh.symm
    rw [← lh] at this
    exact this
  refine ⟨⟨hx, wh, sh, ?_⟩, lh⟩
  rw [rh]
  have e1 : w ++ alt ((i : Int) + 1) ((j : Int) + 1) (p + 1) = (w ++ alt ((i : Int) + 1) ((j : Int) + 1) p) ++ [((xp i j p : Nat) : Int) + 1] := by rw [alt_snoc, xp_eq, List.append_assoc]
  rw [e1] at l1
  have e2 : w.length - p = (w.length - (p + 1)) + 1 := by omega
  rw [e2] at l0
  exact fall_of_less ht (wd_app hw wa) hx l0 l1
theorem Ip.next (ht : Tab T) (hw : Wd T.length w) (hi : i < T.length) (hj : j < T.length) (I : Ip T w i j p s) (hp : p + 1 ≤ w.length) {r : List Int × List Deed} (hr : Br T (s.1.take (w.length - p)) (xp i j p) r) (h0 : p = 0 → r.2 = []) :
    Ip T w i j (p + 1) (r.1 ++ s.1.drop (w.length - p), s.2 ++ r.2) := by
  obtain ⟨h, e, lh, wh, rh⟩ := I.ex
  have et : s.1.take (w.length - p) = h := by rw [e, ← lh, List.take_left']; rfl
  have ed : s.1.drop (w.length - p) = (alt ((i : Int) + 1) ((j : Int) + 1) p).reverse := by rw [e, ← lh, List.drop_left']; rfl
  rw [et] at hr
  rw [ed]
  have hx : xp i j p < T.length := by unfold xp; split <;> assumption
  obtain ⟨v, ev⟩ := hr.last
  obtain ⟨a1, a2, a3⟩ := hr.ws.all ht wh
  have wv : Wd T.length v := fun b hb => a1 b (by rw [ev]; exact List.mem_append_left _ hb)
  have lv : v.length + 1 = h.length := by rw [← a2, ev, List.length_append]; rfl
  have e1 : alt ((i : Int) + 1) ((j : Int) + 1) (p + 1) = alt ((i : Int) + 1) ((j : Int) + 1) p ++ [((xp i j p : Nat) : Int) + 1] := by rw [alt_snoc, xp_eq]
  refine ⟨?_, ⟨v, ?_, by omega, wv, ?_⟩, ?_⟩
  · refine I.ws.app ?_
    rw [e]
    exact hr.ws.suf
  · show r.1 ++ (alt ((i : Int) + 1) ((j : Int) + 1) p).reverse = _
    rw [e1, List.reverse_append, ev, List.append_assoc]
    rfl
  · rw [e1, ← List.append_assoc]
    refine row_cancel ht hx ?_
    rw [row_undo ht hx, ← ev, a3, rh]
  · have lf := hr.few2
    rw [lh] at lf
    refine .inr ⟨by omega, ?_⟩
    show 2 * (s.2 ++ r.2).length + 2 ^ (w.length - (p + 1) + 1) ≤ 2 ^ w.length
    rw [List.length_append, show w.length - (p + 1) + 1 = w.length - p by omega]
    rcases I.few with ⟨rfl, z⟩ | ⟨h1, z⟩
    · rw [h0 rfl, z, Nat.sub_zero]
      show 2 * (0 + 0) + _ ≤ _
      omega
    · have : 2 ^ (w.length - p + 1) = 2 ^ (w.length - p) * 2 := Nat.pow_succ ..
      omega
end
end BW
set_option maxHeartbeats 1000000
namespace BW
open PySem L2 DL
theorem turn_at {T : Mat} (ht : Tab T) {h : List Int} {a b : Nat} (ha : a < T.length) (hb : b < T.length) (ne : a ≠ b) (h0 : 0 < at2 T a b) :
    mv T (h ++ alt ((a : Int) + 1) ((b : Int) + 1) (at2 T a b).toNat) (.turn h.length) = some (h ++ alt ((b : Int) + 1) ((a : Int) + 1) (at2 T a b).toNat) := by
  obtain ⟨m, em⟩ : ∃ m, (at2 T a b).toNat = m + 2 := by
    rcases ht.of a b ha hb ne with e | e | e | e | e
    · exact ⟨0, by rw [e]; rfl⟩
    · exact ⟨1, by rw [e]; rfl⟩
    · exact ⟨2, by rw [e]; rfl⟩
    · exact ⟨4, by rw [e]; rfl⟩
    · rw [e] at h0; exact absurd h0 (by decide)
  have la : (alt ((a : Int) + 1) ((b : Int) + 1) (at2 T a b).toNat).length = (at2 T a b).toNat := alt_length _ _ _
  have g0 : (h ++ alt ((a : Int) + 1) ((b : Int) + 1) (at2 T a b).toNat).getD h.length 0 = (a : Int) + 1 := by
    rw [List.getD_eq_getElem?_getD, List.getElem?_append_right (Nat.le_refl _), Nat.sub_self, em, alt_succ]; rfl
  have g1 : (h ++ alt ((a : Int) + 1) ((b : Int) + 1) (at2 T a b).toNat).getD (h.length + 1) 0 = (b : Int) + 1 := by
    rw [List.getD_eq_getElem?_getD, List.getElem?_append_right (by omega), show h.length + 1 - h.length = 1 by omega, em, alt_succ, alt_succ]; rfl
  have d1 : (h ++ alt ((a : Int) + 1) ((b : Int) + 1) (at2 T a b).toNat).drop h.length = alt ((a : Int) + 1) ((b : Int) + 1) (at2 T a b).toNat := List.drop_left
  have t1 : (alt ((a : Int) + 1) ((b : Int) + 1) (at2 T a b).toNat).take (at2 T a b).toNat = alt ((a : Int) + 1) ((b : Int) + 1) (at2 T a b).toNat := List.take_of_length_le (by rw [la]; exact Nat.le_refl _)
  have d2 : (h ++ alt ((a : Int) + 1) ((b : Int) + 1) (at2 T a b).toNat).drop (h.length + (at2 T a b).toNat) = [] := List.drop_eq_nil_of_le (by rw [List.length_append, la]; exact Nat.le_refl _)
  rw [mv_turn, g0, g1, ix_succ, ix_succ, if_pos ⟨by rw [List.length_append, la, em]; omega, fun z => ne (by omega)⟩, d1, t1, if_pos ⟨by omega, rfl⟩, d2, List.append_nil, List.take_left]
theorem fin_mv {T : Mat} (ht : Tab T) {h : List Int} {i j : Nat} (hi : i < T.length) (hj : j < T.length) (ne : i ≠ j) (h0 : 0 < at2 T i j) :
    mv T (h ++ (alt ((i : Int) + 1) ((j : Int) + 1) (at2 T i j).toNat).reverse) (.turn h.length) = some (h ++ (alt ((j : Int) + 1) ((i : Int) + 1) (at2 T i j).toNat).reverse) := by
  have sy := ht.sy i j hi hj
  rcases alt_rev ht hi hj ne h0 with ⟨a, b⟩ | ⟨a, b⟩
  · rw [a, b]; exact turn_at ht hi hj ne h0
  · rw [a, b]
    have := turn_at ht (h := h) hj hi (fun z => ne z.symm) (by rw [← sy]; exact h0)
    rw [← sy] at this
    exact this
theorem bl_succ {T : Mat} {n : Nat} {w : List Int} {i j : Nat} (hl : w.getLastD 0 = (i : Int) + 1) (ne : i ≠ j) : bl T (n + 1) w ((j : Int) + 1) =
    ((mv T (blS (bl T n) w.length ((i : Int) + 1) ((j : Int) + 1) (w, []) (at2 T i j).toNat).1 (.turn (w.length - (at2 T i j).toNat))).getD (blS (bl T n) w.length ((i : Int) + 1) ((j : Int) + 1) (w, []) (at2 T i j).toNat).1,
      (blS (bl T n) w.length ((i : Int) + 1) ((j : Int) + 1) (w, []) (at2 T i j).toNat).2 ++ [.turn (w.length - (at2 T i j).toNat)]) := by
  show (if w.getLastD 0 = (j : Int) + 1 then (w, []) else _) = _
  rw [hl, if_neg (fun z => ne (by omega)), ix_succ, ix_succ]
theorem ip_all {T : Mat} (ht : Tab T) {n : Nat} (ih : ∀ {w : List Int} {j : Nat}, Bq T w j → sz w ((j : Int) + 1) < n → Br T w j (bl T n w ((j : Int) + 1))) {w : List Int} {i j : Nat} (hw : Wd T.length w) (hs : Sh T w) (hl : w.getLastD 0 = (i : Int) + 1) (hi : i < T.length) (hj : j < T.length) (ne : i ≠ j) (hn : 2 * w.length < n)
    (bm : (at2 T i j).toNat ≤ w.length) (lns : ∀ p, p ≤ (at2 T i j).toNat → LN T (w ++ alt ((i : Int) + 1) ((j : Int) + 1) p) (w.length - p)) :
    ∀ p, p ≤ (at2 T i j).toNat → Ip T w i j p (blS (bl T n) w.length ((i : Int) + 1) ((j : Int) + 1) (w, []) p)
  | 0, _ => ⟨rfl, ⟨w, by show w = w ++ [].reverse; rw [List.reverse_nil, List.append_nil], rfl, hw, by show _ = row T (w ++ []); rw [List.append_nil]⟩, .inl ⟨rfl, rfl⟩⟩
  | p + 1, hp => by
    have I := ip_all ht ih hw hs hl hi hj ne hn bm lns p (by omega)
    generalize hsd : blS (bl T n) w.length ((i : Int) + 1) ((j : Int) + 1) (w, []) p = s at I
    obtain ⟨q, lq⟩ := I.head ht hw hi hj (by omega) (lns p (by omega)) (lns (p + 1) hp)
    show Ip T w i j (p + 1) (((bl T n) ((blS (bl T n) w.length ((i : Int) + 1) ((j : Int) + 1) (w, []) p).1.take (w.length - p)) (if p % 2 = 0 then ((i : Int) + 1) else ((j : Int) + 1))).1 ++ (blS (bl T n) w.length ((i : Int) + 1) ((j : Int) + 1) (w, []) p).1.drop (w.length - p), (blS (bl T n) w.length ((i : Int) + 1) ((j : Int) + 1) (w, []) p).2 ++ ((bl T n) ((blS (bl T n) w.length ((i : Int) + 1) ((j : Int) + 1) (w, []) p).1.take (w.length - p)) (if p % 2 = 0 then ((i : Int) + 1) else ((j : Int) + 1))).2)
    rw [xp_eq, hsd]
    have p0 : p = 0 → s.1.take (w.length - p) = w ∧ xp i j p = i := fun z => by
      subst z
      have : (w, []) = s := hsd
      subst this
      exact ⟨by rw [Nat.sub_zero, List.take_length], rfl⟩
    have szq : sz (s.1.take (w.length - p)) ((xp i j p : Nat) + 1) < n := by
      unfold sz
      rw [lq]
      by_cases c : p = 0
      · obtain ⟨e1, e2⟩ := p0 c
        rw [e1, e2, hl, if_pos rfl]
        omega
      · split <;> omega
    refine I.next ht hw hi hj (by omega) (ih q szq) fun z => ?_
    obtain ⟨e1, e2⟩ := p0 z
    rw [e1, e2, bl_same hl]
theorem bl_ok {T : Mat} (ht : Tab T) : ∀ (n : Nat) {w : List Int} {j : Nat}, Bq T w j → sz w ((j : Int) + 1) < n → Br T w j (bl T n w ((j : Int) + 1))
  | 0, w, j, _, h => absurd h (Nat.not_lt_zero _)
  | n + 1, w, j, q, h => by
    obtain ⟨v, i, hi, ew, hl, ni⟩ := q.own ht
    by_cases c : i = j
    · subst c
      rw [bl_same hl]
      exact ⟨rfl, ⟨v, ew⟩, Nat.zero_le _⟩
    · obtain ⟨b0, bm, lns⟩ := two_at ht q.hw q.sh hi q.hj c ni q.lo
      have hn : 2 * w.length < n := by
        unfold sz at h
        rw [hl, if_neg (fun z => c (by omega))] at h
        omega
      have I := ip_all ht (fun {w j} => bl_ok ht n (w := w) (j := j)) q.hw q.sh hl hi q.hj c hn bm lns (at2 T i j).toNat (Nat.le_refl _)
      rw [bl_succ hl c]
      generalize blS (bl T n) w.length ((i : Int) + 1) ((j : Int) + 1) (w, []) (at2 T i j).toNat = s at I
      obtain ⟨h1, e1, l1, w1, r1⟩ := I.ex
      have hmv : mv T s.1 (.turn (w.length - (at2 T i j).toNat)) = some (h1 ++ (alt ((j : Int) + 1) ((i : Int) + 1) (at2 T i j).toNat).reverse) := by
        rw [e1, ← l1]; exact fin_mv ht hi q.hj c b0
      obtain ⟨m, em⟩ := alt_pos ht hi q.hj c b0
      refine ⟨?_, ⟨h1 ++ (alt ((i : Int) + 1) ((j : Int) + 1) m).reverse, ?_⟩, ?_⟩
      · show Ws T w (s.2 ++ [.turn (w.length - (at2 T i j).toNat)]) ((mv T s.1 (.turn (w.length - (at2 T i j).toNat))).getD s.1)
        rw [hmv]
        exact I.ws.app ⟨_, _, rfl, hmv, rfl⟩
      · show (mv T s.1 (.turn (w.length - (at2 T i j).toNat))).getD s.1 = _
        rw [hmv]
        show h1 ++ (alt ((j : Int) + 1) ((i : Int) + 1) (at2 T i j).toNat).reverse = _
        rw [em, alt_succ, List.reverse_cons, List.append_assoc]
      · show 2 * (s.2 ++ [Deed.turn (w.length - (at2 T i j).toNat)]).length ≤ _
        rw [List.length_append]
        show 2 * (s.2.length + 1) ≤ _
        rcases I.few with ⟨z, _⟩ | ⟨_, z⟩
        · omega
        · have : 2 ^ (w.length - (at2 T i j).toNat + 1) = 2 ^ (w.length - (at2 T i j).toNat) * 2 := Nat.pow_succ ..
          have := Nat.two_pow_pos (w.length - (at2 T i j).toNat)
          omega
end BW
set_option maxHeartbeats 1000000
namespace BW
open PySem L2 DL
def Wo (T : Mat) : List Int → List Deed → List Int → Prop
  | w, [], v => v = w
  | w, e :: r, v => ∃ k u, (e = .turn k ∨ e = .out k) ∧ mv T w e = some u ∧ Wo T u r v
theorem Wo.app {T : Mat} : ∀ {es fs : List Deed} {w u v : List Int}, Wo T w es u → Wo T u fs v → Wo T w (es ++ fs) v
  | [], fs, w, u, v, h, g => by
    have h : u = w := h
    subst h
    exact g
  | e :: r, fs, w, u, v, ⟨k, x, a, b, c⟩, g => ⟨k, x, a, b, Wo.app c g⟩
theorem Ws.wo {T : Mat} : ∀ {es : List Deed} {w v : List Int}, Ws T w es v → Wo T w es v
  | [], w, v, h => h
  | e :: r, w, v, ⟨k, x, a, b, c⟩ => ⟨k, x, .inl a, by rw [a]; exact b, Ws.wo c⟩
theorem mv_out_at {T : Mat} {h z : List Int} {a : Int} : mv T (h ++ [a] ++ (a :: z)) (.out h.length) = some (h ++ z) := by
  have e : h ++ [a] ++ (a :: z) = h ++ (a :: a :: z) := by rw [List.append_assoc]; rfl
  rw [e, mv_out]
  have g0 : (h ++ (a :: a :: z)).getD h.length 0 = a := by rw [List.getD_eq_getElem?_getD, List.getElem?_append_right (Nat.le_refl _), Nat.sub_self]; rfl
  have g1 : (h ++ (a :: a :: z)).getD (h.length + 1) 0 = a := by rw [List.getD_eq_getElem?_getD, List.getElem?_append_right (by omega), show h.length + 1 - h.length = 1 by omega]; rfl
  rw [g0, g1, if_pos ⟨by rw [List.length_append]; simp, rfl⟩, List.take_left]
  congr 2
  rw [show h ++ a :: a :: z = (h ++ [a, a]) ++ z by rw [List.append_assoc]; rfl, show h.length + 2 = (h ++ [a, a]).length by rw [List.length_append]; rfl, List.drop_left]
def tsStep (T : Mat) (s : List Deed × List Int) (a : Int) : List Deed × List Int :=
  if a ∈ fall (row T s.2) then (s.1 ++ ((bl T 40 s.2 a).2 ++ [.out ((bl T 40 s.2 a).1.length - 1)]), (bl T 40 s.2 a).1.take ((bl T 40 s.2 a).1.length - 1)) else (s.1, s.2 ++ [a])
structure Tq (T : Mat) (u : List Int) (s : List Deed × List Int) : Prop where
  wd : Wd T.length s.2
  sh : Sh T s.2
  rw_ : row T s.2 = row T u
  le : s.2.length ≤ u.length
  few : s.1.length < 2 ^ u.length
  led : ∀ z, Wo T (u ++ z) s.1 (s.2 ++ z)
theorem Tq.nil {T : Mat} : Tq T [] ([], []) := by
  refine ⟨fun a ha => (nomatch ha), ?_, rfl, Nat.le_refl _, by decide, fun z => rfl⟩
  obtain ⟨k, hk, h0⟩ := LN.has (T := T) (w := []) fun a ha => (nomatch ha)
  have : k = 0 := by have : k ≤ 0 := h0; omega
  subst this
  exact hk
theorem Tq.bq {T : Mat} {u : List Int} {s : List Deed × List Int} (q : Tq T u s) {i : Nat} (hi : i < T.length) (c : ((i : Int) + 1) ∈ fall (row T s.2)) (hl : u.length ≤ 16) : Bq T s.2 i ∧ sz s.2 ((i : Int) + 1) < 40 := by
  refine ⟨⟨hi, q.wd, q.sh, (mem_fall (by rw [row_length]; exact hi)).mp c⟩, ?_⟩
  have := q.le
  unfold sz
  split <;> omega
theorem Tq.step {T : Mat} (ht : Tab T) {u : List Int} {s : List Deed × List Int} (q : Tq T u s) {i : Nat} (hi : i < T.length) (hl : u.length ≤ 16) : Tq T (u ++ [(i : Int) + 1]) (tsStep T s ((i : Int) + 1)) := by
  have lu : (u ++ [(i : Int) + 1]).length = u.length + 1 := by rw [List.length_append]; rfl
  have rs : row T (s.2 ++ [(i : Int) + 1]) = row T (u ++ [(i : Int) + 1]) := row_app q.rw_
  have p2 : 2 ^ (u.length + 1) = 2 ^ u.length * 2 := Nat.pow_succ ..
  unfold tsStep
  by_cases c : ((i : Int) + 1) ∈ fall (row T s.2)
  · rw [if_pos c]
    obtain ⟨b, szb⟩ := q.bq hi c hl
    have br := bl_ok ht 40 b szb
    generalize bl T 40 s.2 ((i : Int) + 1) = r at br
    obtain ⟨v, ev⟩ := br.last
    obtain ⟨a1, a2, a3⟩ := br.ws.all ht q.wd
    have lv : r.1.length - 1 = v.length := by rw [ev, List.length_append]; rfl
    have tv : r.1.take (r.1.length - 1) = v := by rw [lv, ev, List.take_left]
    have wv : Wd T.length v := fun x hx => a1 x (by rw [ev]; exact List.mem_append_left _ hx)
    have shr : Sh T (v ++ [(i : Int) + 1]) := by
      have := q.sh.cong q.wd a1 a3.symm
      rw [← a2, ev] at this
      exact this
    have pl : 2 ^ s.2.length ≤ 2 ^ u.length := Nat.pow_le_pow_right (by decide) q.le
    refine ⟨?_, ?_, ?_, ?_, ?_, fun z => ?_⟩
    · show Wd T.length (r.1.take (r.1.length - 1)); rw [tv]; exact wv
    · show Sh T (r.1.take (r.1.length - 1)); rw [tv]; exact (Sh.last ht hi wv shr).2
    · show row T (r.1.take (r.1.length - 1)) = _
      rw [tv, ← rs, ← row_undo ht hi (w := v), ← ev]
      exact row_app a3
    · show (r.1.take (r.1.length - 1)).length ≤ _
      rw [tv, lu]
      have := q.le
      have : v.length + 1 = s.2.length := by rw [← a2, ev, List.length_append]; rfl
      omega
    · show (s.1 ++ (r.2 ++ [Deed.out (r.1.length - 1)])).length < _
      rw [List.length_append, List.length_append, lu]
      show s.1.length + (r.2.length + 1) < _
      have := q.few
      have := br.few
      omega
    · show Wo T (u ++ [(i : Int) + 1] ++ z) (s.1 ++ (r.2 ++ [.out (r.1.length - 1)])) (r.1.take (r.1.length - 1) ++ z)
      rw [tv, lv, List.append_assoc u]
      refine (q.led ([(i : Int) + 1] ++ z)).app ?_
      refine Wo.app (Ws.suf (z := [(i : Int) + 1] ++ z) br.ws).wo ?_
      rw [ev]
      exact ⟨v.length, v ++ z, .inr rfl, mv_out_at, rfl⟩
  · rw [if_neg c]
    have m := LN.more ht q.wd q.sh hi
    rw [if_neg c] at m
    refine ⟨wd_app q.wd (wd_one hi), ?_, rs, ?_, ?_, fun z => ?_⟩
    · show LN T (s.2 ++ [(i : Int) + 1]) (s.2 ++ [(i : Int) + 1]).length
      rw [List.length_append]
      exact m
    · show (s.2 ++ [(i : Int) + 1]).length ≤ _
      rw [List.length_append, lu]
      have := q.le
      show s.2.length + 1 ≤ _
      omega
    · show s.1.length < _
      rw [lu]
      have := q.few
      omega
    · show Wo T (u ++ [(i : Int) + 1] ++ z) s.1 (s.2 ++ [(i : Int) + 1] ++ z)
      rw [List.append_assoc, List.append_assoc]
      exact q.led _
end BW
set_option maxHeartbeats 1000000
set_option autoImplicit false
namespace BW
open PySem L2 DL
def tbS (T : Mat) (w v : List Int) : Nat → List Int × List Deed
  | 0 => (w, [])
  | p + 1 => ((bl T 40 ((tbS T w v p).1.take (v.length - p)) (v.getD (v.length - p - 1) 0)).1, (tbS T w v p).2 ++ (bl T 40 ((tbS T w v p).1.take (v.length - p)) (v.getD (v.length - p - 1) 0)).2)
def tb (T : Mat) (w v : List Int) : List Deed := (tbS T w v v.length).2
theorem Sh.pre {T : Mat} (ht : Tab T) : ∀ (n : Nat) {z : List Int}, z.length = n → ∀ {w : List Int}, Wd T.length w → Wd T.length z → Sh T (w ++ z) → Sh T w
  | 0, z, hn, w, hw, hz, h => by
    have : z = [] := List.eq_nil_of_length_eq_zero hn
    subst this
    rw [List.append_nil] at h
    exact h
  | n + 1, z, hn, w, hw, hz, h => by
    rcases snoc_cases hz with e | ⟨y, i, hi, hy, e⟩
    · rw [e] at hn; cases hn
    · subst e
      rw [← List.append_assoc] at h
      rw [List.length_append, List.length_singleton] at hn
      exact Sh.pre ht n (by omega) hw hy (Sh.last ht hi (wd_app hw hy) h).2
structure Tb (T : Mat) (w v : List Int) (p : Nat) (s : List Int × List Deed) : Prop where
  wd : Wd T.length (s.1.take (v.length - p))
  sh : Sh T (s.1.take (v.length - p))
  rw_ : row T (s.1.take (v.length - p)) = row T (v.take (v.length - p))
  ln : (s.1.take (v.length - p)).length = v.length - p
  few : 2 * s.2.length + 2 ^ (v.length - p + 1) ≤ 2 ^ (v.length + 1)
  led : Ws T w s.2 (s.1.take (v.length - p) ++ v.drop (v.length - p))
structure Tp (T : Mat) (w v : List Int) : Prop where
  hw : Wd T.length w
  hv : Wd T.length v
  sw : Sh T w
  sv : Sh T v
  al : row T w = row T v
theorem Tp.len {T : Mat} {w v : List Int} (h : Tp T w v) : w.length = v.length := (h.sw.cong h.hw h.hv h.al).uniq h.sv
theorem Tp.zero {T : Mat} {w v : List Int} (h : Tp T w v) : Tb T w v 0 (w, []) := by
  have l := h.len
  have e : (w, ([] : List Deed)).1.take (v.length - 0) = w := by rw [Nat.sub_zero, ← l]; exact List.take_length
  have e2 : v.take (v.length - 0) = v := by rw [Nat.sub_zero]; exact List.take_length
  have e3 : v.drop (v.length - 0) = [] := by rw [Nat.sub_zero]; exact List.drop_length
  refine ⟨by rw [e]; exact h.hw, by rw [e]; exact h.sw, by rw [e, e2]; exact h.al, by rw [e, l]; rfl, ?_, ?_⟩
  · show 2 * 0 + 2 ^ (v.length - 0 + 1) ≤ _
    rw [Nat.sub_zero]
    omega
  · rw [e, e3, List.append_nil]; rfl
theorem Tp.at_ {T : Mat} {w v : List Int} (h : Tp T w v) {p : Nat} (hp : p < v.length) : ∃ j : Nat, j < T.length ∧ v[v.length - p - 1]? = some ((j : Int) + 1) ∧ v.getD (v.length - p - 1) 0 = (j : Int) + 1 ∧ v.take (v.length - p) = v.take (v.length - (p + 1)) ++ [(j : Int) + 1] ∧ v.drop (v.length - (p + 1)) = ((j : Int) + 1) :: v.drop (v.length - p) := by
  have hg : v[v.length - p - 1]? = some (v[v.length - p - 1]'(by omega)) := List.getElem?_eq_getElem _
  have wa := h.hv _ (List.getElem_mem (by omega : v.length - p - 1 < v.length))
  obtain ⟨j, ej⟩ : ∃ j : Nat, v[v.length - p - 1]'(by omega) = (j : Int) + 1 := ⟨(v[v.length - p - 1]'(by omega) - 1).toNat, by omega⟩
  rw [ej] at hg wa
  have e1 : v.length - (p + 1) = v.length - p - 1 := by omega
  have e2 : v.length - p = v.length - p - 1 + 1 := by omega
  refine ⟨j, by omega, hg, by rw [List.getD_eq_getElem?_getD, hg]; rfl, ?_, ?_⟩
  · rw [e1]
    conv => lhs; rw [e2]
    rw [List.take_succ, hg]; rfl
  · rw [e1, List.drop_eq_getElem_cons (by omega : v.length - p - 1 < v.length), ej, ← e2]
theorem Tb.bq {T : Mat} (ht : Tab T) {w v : List Int} (h : Tp T w v) {p j : Nat} {s : List Int × List Deed} (I : Tb T w v p s) (hp : p < v.length) (hj : j < T.length) (et : v.take (v.length - p) = v.take (v.length - (p + 1)) ++ [(j : Int) + 1]) (hl : v.length ≤ 16) :
    Bq T (s.1.take (v.length - p)) j ∧ sz (s.1.take (v.length - p)) ((j : Int) + 1) < 40 := by
  have wt : ∀ n, Wd T.length (v.take n) := fun n a ha => h.hv a (List.mem_of_mem_take ha)
  have wdp : ∀ n, Wd T.length (v.drop n) := fun n a ha => h.hv a (List.mem_of_mem_drop ha)
  have sp : Sh T (v.take (v.length - p)) := Sh.pre ht _ rfl (wt _) (wdp (v.length - p)) (by rw [List.take_append_drop]; exact h.sv)
  refine ⟨⟨hj, I.wd, I.sh, ?_⟩, ?_⟩
  · rw [I.rw_, et]
    rw [et] at sp
    exact (Sh.last ht hj (wt _) sp).1
  · unfold sz
    rw [I.ln]
    split <;> omega
theorem Tb.next {T : Mat} (ht : Tab T) {w v : List Int} (h : Tp T w v) {p : Nat} {s : List Int × List Deed} (I : Tb T w v p s) (hp : p < v.length) (hl : v.length ≤ 16) :
    Tb T w v (p + 1) ((bl T 40 (s.1.take (v.length - p)) (v.getD (v.length - p - 1) 0)).1, s.2 ++ (bl T 40 (s.1.take (v.length - p)) (v.getD (v.length - p - 1) 0)).2) := by
  obtain ⟨j, hj, _, eg, et, ed⟩ := h.at_ hp
  obtain ⟨b, szb⟩ := I.bq ht h hp hj et hl
  have br := bl_ok ht 40 b szb
  rw [eg]
  generalize bl T 40 (s.1.take (v.length - p)) ((j : Int) + 1) = r at br
  obtain ⟨x, ex⟩ := br.last
  obtain ⟨a1, a2, a3⟩ := br.ws.all ht I.wd
  have lx : x.length = v.length - (p + 1) := by
    have := I.ln
    have : x.length + 1 = r.1.length := by rw [ex, List.length_append]; rfl
    omega
  have tx : r.1.take (v.length - (p + 1)) = x := by rw [ex, ← lx, List.take_left]
  have wx : Wd T.length x := fun y hy => a1 y (by rw [ex]; exact List.mem_append_left _ hy)
  have shr : Sh T (x ++ [(j : Int) + 1]) := by
    have := I.sh.cong I.wd a1 a3.symm
    rw [← a2, ex] at this
    exact this
  have lf := br.few2
  rw [I.ln] at lf
  refine ⟨by rw [tx]; exact wx, by rw [tx]; exact (Sh.last ht hj wx shr).2, ?_, by rw [tx]; exact lx, ?_, ?_⟩
  · rw [tx]
    refine row_cancel ht hj ?_
    rw [← ex, ← et, a3, I.rw_]
  · show 2 * (s.2 ++ r.2).length + 2 ^ (v.length - (p + 1) + 1) ≤ _
    rw [List.length_append, show v.length - (p + 1) + 1 = v.length - p by omega]
    have := I.few
    have : 2 ^ (v.length - p + 1) = 2 ^ (v.length - p) * 2 := Nat.pow_succ ..
    omega
  · show Ws T w (s.2 ++ r.2) (r.1.take (v.length - (p + 1)) ++ v.drop (v.length - (p + 1)))
    rw [tx, ed]
    have e : x ++ ((j : Int) + 1) :: v.drop (v.length - p) = r.1 ++ v.drop (v.length - p) := by rw [ex, List.append_assoc]; rfl
    rw [e]
    exact I.led.app (Ws.suf br.ws)
theorem Tp.all {T : Mat} (ht : Tab T) {w v : List Int} (h : Tp T w v) (hl : v.length ≤ 16) : ∀ p, p ≤ v.length → Tb T w v p (tbS T w v p)
  | 0, _ => h.zero
  | p + 1, hp => (Tp.all ht h hl p (by omega)).next ht h (by omega) hl
theorem Tp.end_ {T : Mat} (ht : Tab T) {w v : List Int} (h : Tp T w v) (hl : v.length ≤ 16) : Ws T w (tb T w v) v := by
  have I := (h.all ht hl v.length (Nat.le_refl _)).led
  rw [Nat.sub_self, List.take_zero, List.drop_zero, List.nil_append] at I
  exact I
end BW
namespace DL
open PySem L2
open PySem.W (Frag)
@[reducible] def Sl.plain : Sl → Bool
  | .own _ _ => false
  | _ => true
end DL
namespace DL
open PySem PySem.Spec PyProof.Rows L2
open PySem.W (Frag)
end DL
set_option maxHeartbeats 1000000
namespace DL
open PySem PySem.Spec PyProof.Rows L2
open PySem.W (Frag)
end DL
namespace BW
open PySem L2 DL
structure XAll (K : PySem.W.Frag) : Prop where
  ek : ∀ n ∈ NU, ExK K (He.ga K n)
  no : ∀ p ∈ F6, p.1 ∈ NU → PySem.W.findIn K (.ref (He.ga K p.1)) p.2 = some none
  is : ∀ n ∈ NU, ∀ d ∈ N7, PySem.W.kitOne K (.ref (He.ga K n)) (.ref (He.ga K d)) = some (decide (n = d))
theorem xallB_ok {K : PySem.W.Frag} (h : xallB K = true) : XAll K := by
  obtain ⟨h1, h⟩ := Bool.and_eq_true_iff.mp h
  obtain ⟨h2, h3⟩ := Bool.and_eq_true_iff.mp h
  exact ⟨fun n hn => exkB_ok (List.all_eq_true.mp h1 n hn), fun p hp hu => of_decide_eq_true (List.all_eq_true.mp h2 p (List.mem_filter.mpr ⟨hp, List.contains_iff_mem.mpr hu⟩)), fun n hn d hd => of_decide_eq_true (List.all_eq_true.mp (List.all_eq_true.mp h3 n hn) d hd)⟩
def sp__law_class (K : PySem.W.Frag) : DSp := fun ds k R => ∃ n f e, ds = [.exc n [f] [e]] ∧ (n, f) ∈ F6 ∧ n ∈ NU ∧ R (.tup [.str n, e]) k
abbrev t__law_class (K : PySem.W.Frag) : DS := (dSeq (dSetO 1 (dLs (dCons (dTup (dCons (dC (.str "BadBonds")) (dCons (dIsiE K "BadBonds" (dVar 0)) dNil))) (dCons (dTup (dCons (dC (.str "BadWord")) (dCons (dIsiE K "BadWord" (dVar 0)) dNil))) dNil))))
  (dSeq (dSetO 1 (dPlN 1 (dFr (dLs (dCons (dTup (dCons (dC (.str "BadRow")) (dCons (dIsiE K "BadRow" (dVar 0)) dNil))) (dCons (dTup (dCons (dC (.str "BadDeed")) (dCons (dIsiE K "BadDeed" (dVar 0)) dNil))) dNil))))))
  (dSeq (dSetO 1 (dPlN 1 (dFr (dLs (dCons (dTup (dCons (dC (.str "BadNumber")) (dCons (dIsiE K "BadNumber" (dVar 0)) dNil))) (dCons (dTup (dCons (dC (.str "Unlike")) (dCons (dIsiE K "Unlike" (dVar 0)) dNil))) dNil))))))
  (dSeq (dApp 1 (dTup (dCons (dC (.str "TooGreat")) (dCons (dIsiE K "TooGreat" (dVar 0)) dNil))))
  (dSeq (dFrzS (dSet 2 (dFr (dLc (iLst (dVar 1)) (dgTup 2 (dgCons (dgN 3) (dgCons (dgN 4) dgNil))) (dTru (dVar 4)) (dVar 3) [3, 4]))))
  (dSeq (dIfS (dTB (dOp oNe (dLenN 2) (dC (.int 1)))) (dRet (dTup (dCons (dC (.str "other")) dNil))) dNext)
  (dSeq (dIfS (dTB (dOp oIn (dIxN 2 (dC (.int 0))) (dTup (dCons (dC (.str "BadBonds")) (dCons (dC (.str "BadWord")) (dCons (dC (.str "BadDeed")) dNil)))))) (dRet (dTup (dCons (dIxN 2 (dC (.int 0))) (dCons (dXf K "place" (dVar 0)) dNil)))) dNext)
  (dSeq (dIfS (dTB (dOp oIn (dIxN 2 (dC (.int 0))) (dTup (dCons (dC (.str "BadRow")) (dCons (dC (.str "BadNumber")) dNil))))) (dRet (dTup (dCons (dIxN 2 (dC (.int 0))) (dCons (dXf K "value" (dVar 0)) dNil)))) dNext)
  (dRet (dIf (dTB (dOp oEq (dIxN 2 (dC (.int 0))) (dC (.str "TooGreat")))) (dTup (dCons (dIxN 2 (dC (.int 0))) (dCons (dXf K "most" (dVar 0)) dNil))) (dTup (dCons (dC (.str "Unlike")) dNil))))))))))))
abbrev t_ctail (K : PySem.W.Frag) : DS := (dSeq (dIfS (dTB (dOp oNe (dLenN 2) (dC (.int 1)))) (dRet (dTup (dCons (dC (.str "other")) dNil))) dNext)
  (dSeq (dIfS (dTB (dOp oIn (dIxN 2 (dC (.int 0))) (dTup (dCons (dC (.str "BadBonds")) (dCons (dC (.str "BadWord")) (dCons (dC (.str "BadDeed")) dNil)))))) (dRet (dTup (dCons (dIxN 2 (dC (.int 0))) (dCons (dXf K "place" (dVar 0)) dNil)))) dNext)
  (dSeq (dIfS (dTB (dOp oIn (dIxN 2 (dC (.int 0))) (dTup (dCons (dC (.str "BadRow")) (dCons (dC (.str "BadNumber")) dNil))))) (dRet (dTup (dCons (dIxN 2 (dC (.int 0))) (dCons (dXf K "value" (dVar 0)) dNil)))) dNext)
  (dRet (dIf (dTB (dOp oEq (dIxN 2 (dC (.int 0))) (dC (.str "TooGreat")))) (dTup (dCons (dIxN 2 (dC (.int 0))) (dCons (dXf K "most" (dVar 0)) dNil))) (dTup (dCons (dC (.str "Unlike")) dNil)))))))
theorem r_ctail (K : PySem.W.Frag) (hX : XAll K) (X : List Addr) (n f : PySem.Str) (e : D) (x1 : Sl) (k : Nat) (R : D → Nat → Prop) (hm : (n, f) ∈ F6) (hn : n ∈ NU) (h : R (.tup [.str n, e]) k) :
    t_ctail K (En R) ⟨X, [.dat (.exc n [f] [e]), x1, .dat (.lst [.str n]), .no, .no], k⟩ := by
  have hk := hX.ek n hn
  have hf := hX.no (n, f) hm hn
  refine ⟨_, rfl, rfl, rfl, _, rfl, iteF ?_⟩
  simp only [F6, List.mem_cons, List.not_mem_nil, or_false, Prod.mk.injEq] at hm
  rcases hm with ⟨rfl, rfl⟩ | ⟨rfl, rfl⟩ | ⟨rfl, rfl⟩ | ⟨rfl, rfl⟩ | ⟨rfl, rfl⟩ | ⟨rfl, rfl⟩
  · refine ⟨_, rfl, _, _, rfl, rfl, by show 3 ≤ lim; decide, rfl, _, rfl, rfl, _, rfl, Eq.mpr (if_pos (by decide)) ?_⟩
    exact fun X => ⟨_, rfl, _, _, rfl, rfl, _, rfl, _, _, e, rfl, rfl, hk, hf, by show 2 ≤ lim; decide, h⟩
  · refine ⟨_, rfl, _, _, rfl, rfl, by show 3 ≤ lim; decide, rfl, _, rfl, rfl, _, rfl, Eq.mpr (if_pos (by decide)) ?_⟩
    exact fun X => ⟨_, rfl, _, _, rfl, rfl, _, rfl, _, _, e, rfl, rfl, hk, hf, by show 2 ≤ lim; decide, h⟩
  · refine ⟨_, rfl, _, _, rfl, rfl, by show 3 ≤ lim; decide, rfl, _, rfl, rfl, _, rfl, Eq.mpr (if_neg (by decide)) ?_⟩
    refine ⟨_, rfl, _, _, rfl, rfl, by show 2 ≤ lim; decide, rfl, _, rfl, rfl, _, rfl, Eq.mpr (if_pos (by decide)) ?_⟩
    exact fun X => ⟨_, rfl, _, _, rfl, rfl, _, rfl, _, _, e, rfl, rfl, hk, hf, by show 2 ≤ lim; decide, h⟩
  · refine ⟨_, rfl, _, _, rfl, rfl, by show 3 ≤ lim; decide, rfl, _, rfl, rfl, _, rfl, Eq.mpr (if_pos (by decide)) ?_⟩
    exact fun X => ⟨_, rfl, _, _, rfl, rfl, _, rfl, _, _, e, rfl, rfl, hk, hf, by show 2 ≤ lim; decide, h⟩
  · refine ⟨_, rfl, _, _, rfl, rfl, by show 3 ≤ lim; decide, rfl, _, rfl, rfl, _, rfl, Eq.mpr (if_neg (by decide)) ?_⟩
    refine ⟨_, rfl, _, _, rfl, rfl, by show 2 ≤ lim; decide, rfl, _, rfl, rfl, _, rfl, Eq.mpr (if_pos (by decide)) ?_⟩
    exact fun X => ⟨_, rfl, _, _, rfl, rfl, _, rfl, _, _, e, rfl, rfl, hk, hf, by show 2 ≤ lim; decide, h⟩
  · refine ⟨_, rfl, _, _, rfl, rfl, by show 3 ≤ lim; decide, rfl, _, rfl, rfl, _, rfl, Eq.mpr (if_neg (by decide)) ?_⟩
    refine ⟨_, rfl, _, _, rfl, rfl, by show 2 ≤ lim; decide, rfl, _, rfl, rfl, _, rfl, Eq.mpr (if_neg (by decide)) ?_⟩
    exact fun X => ⟨_, rfl, _, _, rfl, rfl, _, rfl, Eq.mpr (if_pos (by decide)) ⟨_, rfl, _, _, rfl, rfl, _, rfl, _, _, e, rfl, rfl, hk, hf, by show 2 ≤ lim; decide, h⟩⟩
theorem filt7 : ∀ n ∈ N7, N7.filter (fun m => decide (n = m)) = [n] := by decide
theorem F6_N7 : ∀ p ∈ F6, p.1 ∈ N7 := by decide
theorem r__law_class (K : PySem.W.Frag) (hX : XAll K) (X : List Addr) (ds : List D) (k : Nat) (R : D → Nat → Prop) (h : sp__law_class K ds k R) : t__law_class K (En R) (St0 false 5 ds X k) := by
  obtain ⟨n, f, e, rfl, hm, hn, h⟩ := h
  have hn7 : n ∈ N7 := F6_N7 _ hm
  have hk := hX.ek n hn
  have his := hX.is n hn
  refine ⟨_, rfl, n, _, _, _, rfl, hk, his "BadBonds" (by decide), by show 2 ≤ lim; decide, _, rfl, n, _, _, _, rfl, hk, his "BadWord" (by decide), by show 2 ≤ lim; decide, by show 2 ≤ lim; decide, fun p1 hp1 => ?_⟩
  refine ⟨p1, _, rfl, _, rfl, n, _, _, _, rfl, hk, his "BadRow" (by decide), by show 2 ≤ lim; decide, _, rfl, n, _, _, _, rfl, hk, his "BadDeed" (by decide), by show 2 ≤ lim; decide, by show 2 ≤ lim; decide, _, rfl, by show 2 + 2 ≤ lim; decide, fun p2 hp2 => ?_⟩
  refine ⟨p2, _, rfl, _, rfl, n, _, _, _, rfl, hk, his "BadNumber" (by decide), by show 2 ≤ lim; decide, _, rfl, n, _, _, _, rfl, hk, his "Unlike" (by decide), by show 2 ≤ lim; decide, by show 2 ≤ lim; decide, _, rfl, by show 4 + 2 ≤ lim; decide, fun p3 hp3 => ?_⟩
  refine ⟨p3, _, rfl, _, rfl, n, _, _, _, rfl, hk, his "TooGreat" (by decide), by show 2 ≤ lim; decide, by show 6 < lim; decide, fun X' => ?_⟩
  refine ⟨_, rfl, _, rfl, by show 7 ≤ lim; decide, fun q hq => ⟨fun j acc k' => k' = k ∧ acc = ((N7.take j).filter (fun m => decide (n = m))).map D.str, ⟨rfl, rfl⟩, ?_, ?_⟩⟩
  · rintro j d acc k' hd ⟨rfl, rfl⟩ _
    have hd : (N7.map fun m => D.tup [.str m, .bl (decide (n = m))])[j]? = some d := hd
    rw [List.getElem?_map] at hd
    obtain ⟨m, hj, rfl⟩ := Option.map_eq_some_iff.mp hd
    have st : (N7.take (j + 1)).filter (fun m => decide (n = m)) = (N7.take j).filter (fun m => decide (n = m)) ++ if decide (n = m) = true then [m] else [] := by
      rw [List.take_succ, hj, List.filter_append]
      congr 1
      by_cases q : decide (n = m) = true
      · rw [if_pos q]; exact List.filter_cons_of_pos q
      · rw [if_neg q]; exact List.filter_cons_of_neg q
    refine ⟨rfl, rfl, _, rfl, _, rfl, ?_⟩
    cases c : decide (n = m) with
    | false => exact iteF ⟨rfl, by rw [st, c, if_neg (by decide), List.append_nil]⟩
    | true =>
      refine iteT ⟨_, rfl, rfl, ?_⟩
      rw [st, c, if_pos rfl, List.map_append]
      rfl
  · rintro acc k' ⟨rfl, rfl⟩ _
    have e2 : ((N7.take 7).filter (fun m => decide (n = m))).map D.str = [.str n] := by rw [show N7.take 7 = N7 from rfl, filt7 n hn7]; rfl
    show t_ctail K (En R) ⟨X', [.dat (.exc n [f] [e]), _, .dat (.lst (((N7.take 7).filter (fun m => decide (n = m))).map D.str)), .no, .no], k'⟩
    rw [e2]
    exact r_ctail K hX X' n f e _ k' R hm hn h
end BW
set_option maxHeartbeats 1000000
namespace L2G
open PySem PySem.Spec PyProof.Rows L2 LamX
theorem lawGT {P : Program} {w : World} {K : PySem.W.Frag} {mg mb : Str → Option Value} {k : Nat} {fa a : Addr} {cs : List (Addr × Addr)} {fd : FuncData} {x : Str} {sp : Sp} {s₁ : Shared} {vs : List Value} {ns : List Int}
    (kin : K.In s₁.heap) (gns : s₁.heap.Ns mainGlobals mg) (bns : s₁.heap.Ns builtinsNs mb) (bbo : ∀ x : Str, x ≠ "__name__" → mb x = bootBuiltins x) (nlim : s₁.heap.NoLimit) (gens : s₁.gens = #[])
    (tabs : ∀ p ∈ cs, s₁.heap.get? p.2 = some { cls := .none, data := .fields #[] }) (offT : ∀ p ∈ cs, K.lookup p.2 = none) (heads : ∀ p ∈ cs, PySem.W.CodeHd s₁.heap p.1 p.2)
    (bmod : ∃ (bm : Addr) (ob : Obj), mg "__builtins__" = some (.ref bm) ∧ bm ≠ builtinsNs ∧ s₁.heap.get? bm = some ob ∧ ob.cls = .type "module" ∧ ob.dict = some builtinsNs ∧ ob.data = .plain)
    (ob : s₁.heap.get? a = some { cls := .type "list", data := .seq vs.toArray }) (iar : IntsAre vs ns) (small : ns.length ≤ sizeLine) (room : Room k callerA)
    (F : ∀ base : Heap, K.In base → base.Ns mainGlobals mg → (∀ p ∈ cs, TabB base mg p.1 p.2) → FnG P w K mg base k fa fd [x] sp) (bind : ∀ (s : Shared) (u : Value), BindsTo s fd ⟨[u], []⟩ [(x, u)])
    (prom : ∀ H : Hp, (∀ p ∈ cs, H p.2 = some (.tbl #[])) → SqL K H a (ns.map V.int) → sp [.ref a] H (fun v _ => v = .bl true) fun _ _ _ => False) :
    codeAny (model P w) callerA (.call (.ref fa) ⟨[.ref a], []⟩) (fun r s' => r = .ok (.ret (.bool true)) ∧ OldK s₁.heap s'.heap ∧ s'.os = s₁.os ∧ AllBare s'.gens) s₁ := by
  have rel := vals_ints iar
  have same := iar.length
  let ts : List Addr := cs.map (·.2)
  have inTs : ∀ p ∈ cs, p.2 ∈ ts := fun p hp => List.mem_map.mpr ⟨p, hp, rfl⟩
  have tab_at : ∀ b ∈ ts, s₁.heap.get? b = some { cls := .none, data := .fields #[] } ∧ K.lookup b = none ∧ ∃ p ∈ cs, p.2 = b := fun b hb => by
    obtain ⟨p, hp, rfl⟩ := List.mem_map.mp hb
    exact ⟨tabs p hp, offT p hp, p, hp, rfl⟩
  have a_off : a ∉ ts := fun z => by
    have q := (tab_at a z).1
    rw [ob] at q
    cases congrArg (fun o => o.map Obj.data) q
  have main : ∀ H : Hp, (∀ b ∈ ts, H b = some (.tbl #[])) → (∀ b u, H b = some u → b ∈ ts ∨ (b = a ∧ ∃ o ys, u = .frz o (.lst ys))) → SqL K H a (ns.map V.int) → HOk P w H s₁.heap → (H a ≠ none → K.lookup a = none) →
      codeAny (model P w) callerA (.call (.ref fa) ⟨[.ref a], []⟩) (fun r s' => r = .ok (.ret (.bool true)) ∧ OldK s₁.heap s'.heap ∧ s'.os = s₁.os ∧ AllBare s'.gens) s₁ := by
    intro H hTb hOnly sq hk offK
    have tabH : ∀ p ∈ cs, H p.2 = some (.tbl #[]) := fun p hp => hTb _ (inTs p hp)
    -- what is tracked is the script or a table
    have free : ∀ {b : Addr} {o : Obj}, s₁.heap.get? b = some o → (∀ xs n, o.data ≠ .seq xs n) → o.data ≠ .fields #[] → H b = none := fun {b o} z n1 n2 => by
      cases y : H b with
      | none => rfl
      | some u =>
        exfalso
        rcases hOnly b u y with i | ⟨rfl, _⟩
        · rw [(tab_at b i).1] at z
          cases z
          exact n2 rfl
        · rw [ob] at z
          cases z
          exact n1 _ _ rfl
    have down : ∀ {b : Addr} {o : Obj}, s₁.heap.get? b = some o → (∀ xs n, o.data ≠ .seq xs n) → o.data ≠ .fields #[] → (hidT s₁.heap H).get? b = some o := fun {b o} z n1 n2 => hidT_get z (free z n1 n2)
    have ns_down : ∀ {b : Addr} {m : Str → Option Value}, s₁.heap.Ns b m → (hidT s₁.heap H).Ns b m := fun {b m} ⟨o, es, ep, z, d, r⟩ => ⟨o, es, ep, down z (fun xs n i => by rw [d] at i; cases i) (fun i => by rw [d] at i; cases i), d, r⟩
    have kin2 : K.In (hidT s₁.heap H) := fun b o z => by
      refine hidT_get (kin b o z) ?_
      cases y : H b with
      | none => rfl
      | some u =>
        exfalso
        rcases hOnly b u y with i | ⟨rfl, _⟩
        · rw [(tab_at b i).2.1] at z
          cases z
        · rw [offK (by rw [y]; simp)] at z
          cases z
    have md : L2.Mod K mg (hidT s₁.heap H) := by
      obtain ⟨mc, l1, l2⟩ := nlim
      exact ⟨kin2, ns_down gns, ⟨mb, ns_down bns, bbo⟩, mc, ns_down l1, l2⟩
    have tbs : ∀ p ∈ cs, TabB (hidT s₁.heap H) mg p.1 p.2 := by
      intro p hp
      have tp := tabs p hp
      constructor
      · obtain ⟨o, us, file, tf, flags, tg, inF, text, tt, g1, g2, g3, g4, g5, g6, g7, g8, g9, g10⟩ := heads p hp
        refine ⟨o, us, file, tf, flags, tg, inF, text, tt, down g1 (fun xs n i => ?_) (fun i => ?_), g2, g3, g4, g5, g6, g7, g8, g9, g10⟩
        · rw [g3] at i; cases i
        · rw [g3] at i; cases i; simp at g4
      · obtain ⟨bm, om, q1, q2, q3, q4, q5, q6⟩ := bmod
        refine ⟨bm, om, q1, q2, ?_, ?_, down q3 (fun xs n i => ?_) (fun i => ?_), q4, q5, q6⟩
        · rintro rfl
          obtain ⟨o, es, ep, z, d, _⟩ := gns
          rw [z] at q3
          cases q3
          rw [q6] at d
          cases d
        · rintro rfl
          rw [tp] at q3
          cases q3
          cases q6
        · rw [q6] at i; cases i
        · rw [q6] at i; cases i
      · intro z
        obtain ⟨o, es, ep, y, d, _⟩ := gns
        rw [z, tp] at y
        cases y
        cases d
    have env : Env0 P w K mg (hidT s₁.heap H) callerA [] s₁ H := ⟨rfl, md, fun b o z => of_hidT z, Nat.le_of_eq (hidT_size _ _), trivial, fun b z => absurd (show b ∈ ([] : List Addr) from z) (by simp), hk, .of_eq gens⟩
    refine codeAny_mono ((F _ kin2 (ns_down gns) tbs).run callerA [] s₁ H ⟨[.ref a], []⟩ [.ref a] [.ref a] _ _ room rfl env (bind s₁ (.ref a)) (.cons rfl .nil) (prom H tabH sq)) fun out s2 fin => ?_
    cases out with
    | error e => exact (show False from fin).elim
    | ok fl =>
      cases fl with
      | next => exact (show False from fin).elim
      | brk => exact (show False from fin).elim
      | cont => exact (show False from fin).elim
      | ret u =>
        obtain ⟨v, H2, eos, bare, un, hk2, rv, q⟩ := fin
        obtain rfl : v = .bl true := q
        obtain rfl : u = Value.bool true := rv
        have more : ∀ b ∈ ts, ∃ ys : Array Value, s2.heap.get? b = some { cls := .none, data := .fields ys } := fun b hb => by
          obtain ⟨ys, z⟩ := un.tbls b #[] (hTb b hb)
          exact ⟨_, hk2 b _ z⟩
        have rest : ∀ b o, b ∉ ts → s₁.heap.get? b = some o → s2.heap.get? b = some o := fun b o nb z => by
          cases y : H b with
          | none => exact un.keep b o z y (fun i => absurd (show b ∈ ([] : List Addr) from i) (by simp)) (by simp)
          | some t =>
            rcases hOnly b t y with i | ⟨_, o2, ys, rfl⟩
            · exact absurd i nb
            · obtain ⟨g1, _⟩ := hk b _ y
              obtain ⟨g2, _⟩ := hk2 b _ (un.frzs b o2 _ y)
              rw [z] at g1
              cases g1
              exact g2
        refine ⟨rfl, ⟨fun b o z => ?_, fun b o z => ?_⟩, eos, bare⟩
        · by_cases i : b ∈ ts
          · obtain ⟨e1, _, p, hp, rfl⟩ := tab_at b i
            obtain ⟨ys, e2⟩ := more _ i
            rw [e1] at z
            cases z
            exact .inr (.inl ⟨((heads p hp).tab e1).isCodeTable, rfl, #[], ys, rfl, by rw [Array.empty_append]; exact e2⟩)
          · exact .inl (rest b o i z)
        · by_cases i : b ∈ ts
          · obtain ⟨ys, e2⟩ := more b i
            exact ⟨_, e2⟩
          · exact ⟨o, rest b o i z⟩
  cases lk : K.lookup a with
  | some o =>
    have z := kin a o lk
    rw [ob] at z
    cases z
    obtain ⟨H0, at_t, off⟩ : ∃ H0 : Hp, (∀ b ∈ ts, H0 b = some (.tbl #[])) ∧ ∀ b, b ∉ ts → H0 b = none := ⟨fun b => if b ∈ ts then some (.tbl #[]) else none, fun b i => if_pos i, fun b i => if_neg i⟩
    refine main H0 at_t (fun b u z => ?_) (.inr ⟨_, vs.toArray, _, lk, rfl, rfl, rfl, by rw [List.size_toArray, same]; exact small, by simpa using rel⟩) (fun b u z => ?_) fun z => absurd (off a a_off) z
    · by_cases i : b ∈ ts
      · exact .inl i
      · rw [off b i] at z; cases z
    · by_cases i : b ∈ ts
      · rw [at_t b i] at z
        cases z
        exact (tab_at b i).1
      · rw [off b i] at z; cases z
  | none =>
    obtain ⟨H0, at_a, at_t, off⟩ : ∃ H0 : Hp, H0 a = some (.frz { cls := .type "list", data := .seq vs.toArray } (.lst (ns.map V.int))) ∧ (∀ b ∈ ts, H0 b = some (.tbl #[])) ∧ ∀ b, b ≠ a → b ∉ ts → H0 b = none := by
      refine ⟨fun b => if b ∈ ts then some (.tbl #[]) else if b = a then some (.frz { cls := .type "list", data := .seq vs.toArray } (.lst (ns.map V.int))) else none, ?_, fun b i => if_pos i, fun b i j => ?_⟩
      · show (if a ∈ ts then _ else _) = _
        rw [if_neg a_off, if_pos rfl]
      · show (if b ∈ ts then _ else _) = _
        rw [if_neg j, if_neg i]
    refine main H0 at_t (fun b u z => ?_) (.inl (.inr ⟨_, at_a⟩)) (fun b u z => ?_) fun _ => lk
    · by_cases i : b ∈ ts
      · exact .inl i
      · by_cases e : b = a
        · subst e
          rw [at_a] at z
          cases z
          exact .inr ⟨rfl, _, _, rfl⟩
        · rw [off b e i] at z; cases z
    · by_cases i : b ∈ ts
      · rw [at_t b i] at z
        cases z
        exact (tab_at b i).1
      · by_cases e : b = a
        · subst e
          rw [at_a] at z
          cases z
          exact ⟨ob, by rw [List.length_map]; exact small, vs, _, rel, ob⟩
        · rw [off b e i] at z; cases z
theorem walkGT {l : PySem.W.OpenLaw} {n k : Nat} {q : Program} {loose : List Str} {XP : (Str → Option Value) → Heap → Prop} {YP : World → Heap → Prop} {d : DefRec} {x : Str}
    (most : l.most = some n) (le : n ≤ sizeLine) (nodf : d.params.defaults = []) (room : Room k callerA)
    (F : ∀ (w : World) (mg : Str → Option Value) (fa : Addr) (h : Heap), YP w h → h.Ns mainGlobals mg → mg d.name = some (.ref fa) →
      ∃ (K : PySem.W.Frag) (fd : FuncData) (sp : Sp) (cs : List (Addr × Addr)), K.In h ∧ (∀ p ∈ cs, h.get? p.2 = some { cls := .none, data := .fields #[] }) ∧ (∀ p ∈ cs, K.lookup p.2 = none) ∧ (∀ p ∈ cs, PySem.W.CodeHd h p.1 p.2) ∧ (∀ (s : Shared) (u : Value), BindsTo s fd ⟨[u], []⟩ [(x, u)]) ∧
        (∀ (H : Hp) (a : Addr) (ns : List Int), ns.length ≤ n → (∀ p ∈ cs, H p.2 = some (.tbl #[])) → SqL K H a (ns.map V.int) → sp [.ref a] H (fun v _ => v = .bl true) fun _ _ _ => False) ∧
        ∀ base : Heap, K.In base → base.Ns mainGlobals mg → (∀ p ∈ cs, TabB base mg p.1 p.2) → FnG l.prog w K mg base k fa fd [x] sp) :
    PySem.W.WalkO q loose XP YP l.row.toRowW d [] (fun f vs => PySem.call f vs) := by
  refine Att.attach_call most nodf fun w s0 s1 mg mb fa o pm cd doc a vs ns G Y _ _ _ named obj iar len gens => ?_
  obtain ⟨K, fd, sp, cs, kin, e1, e2, e3, bind, prom, ok⟩ := F w mg fa _ Y G.T.g named
  exact lawGT kin G.T.g G.T.b G.T.builtins G.T.nolimit gens e1 e2 e3 G.T.bmain obj iar (Nat.le_trans len le) room ok bind fun H tb sq => prom H a ns len tb sq
end L2G
set_option maxHeartbeats 1000000
namespace DL
open PySem PySem.Spec PyProof.Rows L2 LamX
open PySem.W (Frag)
def ToldSt (P : Program) (w : World) (K : Frag) (mg : PySem.Str → Option Value) (base : Heap) (st : Stmt) : Prop := ∃ a1 a2 a3 a4 a5 a6 a7 b1 b2 b3 b4 b5 b6 b7 b8 b9 b10 b11 b12 c1 c2 c3 c4 c5 c6 c7 c8 c9 c10 : Pos,
  defBody st = toldBody a1 a2 a3 a4 a5 a6 a7 b1 b2 b3 b4 b5 b6 b7 b8 b9 b10 b11 b12 c1 c2 c3 c4 c5 c6 c7 c8 c9 c10 ∧ defScope st = toldScope ∧
  ∀ (g : Addr) (cdv : Value) (A : Around) (ou : List Env) (s : Shared) (H : Hp), swappedStores [Expr.Tuple [Expr.Name "found" a1, Expr.Name "error" a2] 0 a3] (Expr.Tuple [Expr.Constant Const.none 0 a4, Expr.Constant Const.none 0 a5] 0 a6) (cxOf C8.CX0 P w K mg base ["call", "found", "error", "e"] "_law_told" toldScope g cdv A ou s H C8.E0).nox.env = pure none
structure TdB (P : Program) (w : World) (K : Frag) (mg : PySem.Str → Option Value) (base : Heap) (k : Nat) (ns : List PySem.Str) (spC : DSp) : Prop where
  ex : ∃ (st : Stmt) (g gc C1 C2 : Addr) (fd fdc : FuncData), Fun K "_law_told" "_law_told" st g fd ∧ L2.Binds K fd ["call"] [] ∧ mg "_law_told" = some (.ref g) ∧ mg "BondError" = some (.ref C1) ∧ mg "TooGreat" = some (.ref C2) ∧ mg "_law_class" = some (.ref gc) ∧ PySem.W.keepIn K (.ref gc) = true ∧
    FnOk P w K mg base CX0 k gc fdc ["error"] (spD K false spC) ∧ L2.Binds K fdc ["error"] [] ∧ (∀ n ∈ ns, PySem.W.exmAny K (.ref (He.ga K n)) [.ref C1, .ref C2] = some true) ∧ ToldSt P w K mg base st
def LwC (c : C) (T : List (Addr × PySem.Str)) : Prop := (∃ m, c.M = some m ∧ m.T = T) ∧ NoTs c.H0
structure InT (T : List (Addr × PySem.Str)) (Pt : Addr) (q : PySem.Str) : Prop where
  mem : (Pt, q) ∈ T
  uni : ∀ p ∈ T, p.1 = Pt → p.2 = q
section
variable {X : Cx} {c : C} {T : List (Addr × PySem.Str)} {k j : Nat} {cc Pt : Addr} {q : PySem.Str} {spC : DSp} {ns : List PySem.Str} {t : EX → DE} {params : Arguments} {body : Expr} {scope : Scope} {p lpos pos : Pos}
theorem pd_toldB (hK : c.K = X.K) (fr : LwC c T) (it : InT T Pt q) (td : TdB X.prog X.w X.K X.mg X.base k ns spC) (TB : TabB X.base X.mg cc Pt) (hcode : X.env.code = .ref cc) (hr : Room j X.A) (hk : k + 2 ≤ j) (L : LamS X.env.scope scope)
    (hbody : ∀ (A : Around) (outer : List Env) (s : Shared) (H : Hp) (E : XK) (f c' : Addr) (c2 : C) (Ex : EX), Room k (A.deeper (lamEnv X scope s.heap.objs.size f c')) → c2.K = X.K → Takes (lamCx X A outer s H E scope f c') (WL c2 Ex) → PE (lamCx X A outer s H E scope f c') body (LE c2 (t Ex)))
    (hq : X.env.qual ++ "<lambda>" = q := by rfl) (hg : Gl X "_law_told" := by rfl) (hdef : defaultsOf params X.env = ([], []) := by rfl)
    (hbind : ∀ (q : PySem.Str) (cl : List (PySem.Str × Addr)) (pm cv ctv : Value), bindArgs (PySem.W.kla_fn "<lambda>" q params body scope cl pm cv ctv) ⟨[], []⟩ = pure [] := by intros; rfl) :
    PE X (.Call (.Name "_law_told" p) [.Lambda params body scope lpos] [] pos) (LE c (dTold ns spC t)) := by
  obtain ⟨⟨m, hM, hT⟩, h0⟩ := fr
  obtain ⟨st, g, gc, C1, C2, fd, fdc, F, bF, hm, m1, m2, mc, kc, Gc, bc, hcat, a1, a2, a3, a4, a5, a6, a7, b1, b2, b3, b4, b5, b6, b7, b8, b9, b10, b11, b12, c1, c2, c3, c4, c5, c6, c7, c8, c9, c10, e1, e2, e3⟩ := td.ex
  exact pd_told hK hM h0 F bF hm m1 m2 mc kc Gc bc hcat TB hcode (by rw [hT, hq]; exact it.mem) (fun p hp e => by rw [hT] at hp; rw [it.uni p hp e, hq]) (hr.mono hk) e1 e2 (fun cdv s H => e3 g cdv _ _ s H) L hbody hg hdef hbind
end
end DL
namespace L2G
open PySem PySem.Spec PyProof.Rows L2
theorem okGT {P : Program} {w : World} {K : PySem.W.Frag} {mg : Str → Option Value} {base : Heap} {x qual : Str} {st : Stmt} {p : Str × Option Str} {fd : FuncData} {N ps : List Str} {k : Nat} {sp : Sp} (F : Fun K x qual st (He.fAd K p) fd) (S : FnScope N ps (defScope st)) (ln : ∀ vs H Q E, sp vs H Q E → vs.length = ps.length)
    (bd : ∀ (cdv : Value) (A : Around) (ou : List Env) (s : Shared) (H : Hp) (vs : List V) (Q : VK) (E : XK), cdv = .ref (He.codeOf K p) → Room k (A.deeper (envOfC qual (defScope st) s.heap.objs.size (He.fAd K p) cdv)) → (A.deeper (envOfC qual (defScope st) s.heap.objs.size (He.fAd K p) cdv)).guards = some [] → sp vs H Q E →
      ∃ t, PSs (cxOf CX0 P w K mg base N qual (defScope st) (He.fAd K p) cdv A ou s H E).nox (defBody st) t ∧ t { nx := fun _ H' => Q .non H', rt := Q } (L2.start N vs) H) : FnG P w K mg base (k + 1) (He.fAd K p) fd ps sp := by
  obtain ⟨oc, od, kV, doc, pm, an, cdv, ct, osl, rfl, lk, cdok⟩ := F.ex
  obtain ⟨cc, rfl⟩ := He.codeIn_ref cdok
  have ecc : He.codeOf K p = cc := He.codeOf_eq lk rfl
  refine ⟨ln, fun A ou s H ar us vs Q E room gu en bi rv hs => ?_⟩
  have lv := ln _ _ _ _ hs
  have inK : K.In s.heap := en.mod.kin.keeps fun a u z => (en.bs a u z).1
  have nlim : s.heap.NoLimit := en.mod.nolimit.keeps fun a u z => (en.bs a u z).1
  have kinds : ∀ y ∈ ps.zip us, (defScope st).names.lookup y.1 = some .local ∨ ((defScope st).names.lookup y.1 = some .cell ∧ ((cellsFrom (s.heap.objs.size + 1) (defScope st).names []).lookup y.1).isSome = true) := by
    rintro ⟨nm, vl⟩ hy
    exact (S.par nm (List.of_mem_zip hy).1).imp id fun z => ⟨z, PySem.W.cellsFrom_some _ _ _ (.inl z)⟩
  refine codeAny_call_function room.depth (inK _ _ lk) rfl S.co S.gen rfl (PySem.W.codeRec_of inK cdok) (bi _ _ _ _ ?_)
  refine wpAny_newFunctionEnv_cells S.kind kinds fun env same s1 ic => ?_
  subst same
  refine ⟨nlim.keeps ic.toInCall.keep, codeAny_func ?_⟩
  obtain ⟨t, walk, ends⟩ := bd (.ref cc) A ou s H vs Q E (by rw [ecc]) (room.deeper _) gu hs
  have I0 := inv_start (CX := CX0) (E := E) S room.hd en lv rv ic
  refine wpAny_mono (walk.nox.run [] s1 (L2.start N vs) H _ I0 ends) (fun fl s2 hfl => ?_) fun _ _ z => z
  cases fl with
  | ret u =>
    obtain ⟨v, τ, H2, J, r2, q2⟩ := hfl
    exact ⟨v, H2, J.os, J.bare, J.base, J.hok, r2, q2⟩
  | next =>
    obtain ⟨τ, H2, J, q2⟩ := hfl
    exact ⟨V.non, H2, J.os, J.bare, J.base, J.hok, rfl, q2⟩
  | brk =>
    obtain ⟨_, _, _, q2⟩ := hfl
    exact q2.elim
  | cont =>
    obtain ⟨_, _, _, q2⟩ := hfl
    exact q2.elim
end L2G
set_option maxHeartbeats 1000000
namespace BW
open PySem L2 DL
end BW
set_option maxHeartbeats 1000000
namespace BW
open PySem L2 DL
def bk (w : List Int) : Deed → Deed
  | .inn k _ => .out k
  | .out k => .inn k (w.getD k 0)
  | .turn k => .turn k
end BW
set_option maxHeartbeats 1000000
namespace DL
open PySem L2
open PySem.W (Frag)
section
variable {P : Program} {w : World} {K : Frag} {mg : PySem.Str → Option Value} {base : Heap} {k : Nat} {f : Addr} {fd : FuncData} {ps : List PySem.Str} {hm : Bool} {sp : DSp} {spX : DSpX} {x : PySem.Str}
theorem calm_ok (F : FnOk P w K mg base (L2.CX P w) k f fd ps (spDX K hm spX)) (h : ∀ ds k R, sp ds k R → spX ds k R (fun _ _ => False)) : FnOk P w K mg base CX0 k f fd ps (spD K hm sp) := by
  have key : ∀ vs H Q E, spD K hm sp vs H Q E → spDX K hm spX vs H Q (fun _ _ _ => False) := fun vs H Q E ⟨M, X0, k, ds, ws, R, h1, a, h2, h3⟩ => ⟨M, X0, k, ds, ws, R, fun _ _ => False, h1, a, h _ _ _ h2, h3, fun _ _ q => q.elim⟩
  refine ⟨fun vs H Q E q => F.len _ _ _ _ (key _ _ _ _ q), fun A outer s H args us vs Q E hr he hb hv hs => ?_⟩
  refine codeAny_mono (F.run A outer s H args us vs Q _ hr he hb hv (key _ _ _ _ hs)) fun r s' q => ?_
  cases r with
  | ok o => cases o <;> exact q
  | error e =>
    obtain ⟨_, _, _, _, _, _, _, _, _, _, _, _, z⟩ := (show L2.CX P w outer H s (fun _ _ _ => False) e s' from q)
    exact z.elim
theorem CalX.calm (F : CalX P w K mg base k x spX) (h : ∀ ds k R, sp ds k R → spX ds k R (fun _ _ => False)) : CalD P w K mg base k x false sp := by
  obtain ⟨f, fd, ps, G, hm, kp, b⟩ := F.ex
  exact ⟨f, fd, ps, calm_ok G h, hm, kp, b⟩
end
abbrev dNewD : DE := fun s Q => Q .dic s.k
section
variable {X : Cx} {c : C} {pos : Pos}
theorem pd_newD : PE X (.Dict [] [] pos) (LE c dNewD) := pe_dnewK.weak fun σ H Q ⟨s, R, rp, q, f⟩ p hp =>
  have n := rp.new (o := .dK []) hp
  f _ _ q (.ref p) _ n.1 n.2 (.dic (rp.at_new hp))
end
end DL
namespace BW
open PySem L2 DL
def exLT (K : PySem.W.Frag) (t : DT) : TT := fun σ H Q => ∃ c, c.K = K ∧ LT c t σ H Q
theorem PT.exT {X : Cx} {e : Expr} {K : PySem.W.Frag} {t : DT} (h : ∀ c, c.K = K → PT X e (LT c t)) : PT X e (exLT K t) := ⟨fun pins s σ H Q I ⟨c, hc, q⟩ => (h c hc).run pins s σ H Q I q⟩
abbrev t_in8 : DA := dLc (iR1 (dVar 2)) (dgN 6) dY (dIf (dTB (dOp oEq (dVar 5) (dVar 6))) (dC (.int 1)) (dC (.int 2))) [6]
theorem nest_tab {K : PySem.W.Frag} {X0 : List Addr} {n : Nat} {σ : L2.St} {H : Hp} {Q : VK} (xs : ∀ a ∈ X0, H a ≠ none) (xt : ∀ a ∈ X0, ∀ ps, H a ≠ some (.tbl ps)) (n6 : n ≤ 6) (e1 : σ[2]? = some (some (.int n))) (hl : σ.length = 8)
    (h : ∀ p qs H', Keep none X0 H H' → H p = none → (∀ q ∈ qs, H q = none) → Mx H' p qs (idM n) → Q (.ref p) H') :
    tLc (iRng1 (tCons (tVar 2) tNil)) (gName 5) tYes (exLF K t_in8) [5] σ H Q := by
  refine ⟨_, e1, n, rfl, by omega, by omega, fun D hD => ?_⟩
  rw [Int.toNat_natCast]
  refine ⟨fun i m H' => m = n - i ∧ i ≤ n ∧ ∃ qs, Keep none X0 H H' ∧ (∀ q ∈ qs, H q = none) ∧ Mx H' D qs ((List.range i).map (idr n)), ⟨n, rfl, Nat.zero_le _, [], Keep.refl.new xs hD, fun _ h => (nomatch h), ⟨upd_same, rfl, fun i q r e => by simp at e, List.nodup_nil, by simp⟩⟩, ?_⟩
  rintro i m H' ⟨rfl, hi, qs, kp, fr, mx⟩
  by_cases hlt : i < n
  · refine .inr ⟨hlt, fun H'' => ∃ qs, Keep none X0 H H'' ∧ (∀ q ∈ qs, H q = none) ∧ Mx H'' D qs ((List.range (i + 1)).map (idr n)), fun H'' ⟨qs, q⟩ => ⟨n - (i + 1), by omega, rfl, hlt, qs, q⟩, ?_⟩
    rintro x H'' ⟨rfl, rfl⟩
    refine ⟨?_, ?_⟩
    · show ((σ.set 5 none).set 5 (some (V.int (0 + (i : Int))))).set 5 none = σ.set 5 none
      rw [List.set_set, List.set_set]
    · unfold tYes
      dsimp only
      rw [if_pos rfl]
      have xs2 : ∀ a ∈ X0, H'' a ≠ none := fun a ha => by rw [kp.old a ha]; exact xs a ha
      refine ⟨⟨K, none, X0, H'', []⟩, rfl, ⟨X0, [.no, .no, .dat (.int n), .no, .no, .dat (.int (0 + (i : Int))), .no, .no], 0⟩, fun ds _ => ds = (idr n i).map .int, ?_, ?_, ?_⟩
      · refine rep_of (fun _ _ => by simp [Ml]) xs2 (fun a ha => by rw [kp.old a ha]; exact xt a ha) ?_ trivial (fun j x e => ?_) (fun j p ds e => ?_)
        · show 8 = ((σ.set 5 none).set 5 _).length
          rw [List.length_set, List.length_set, hl]
        · match j, e with
          | 0, e => cases e; trivial
          | 1, e => cases e; trivial
          | 2, e =>
            cases e
            refine ⟨.int n, ?_, .int _⟩
            show ((σ.set 5 none).set 5 _)[2]? = _
            rw [List.getElem?_set_ne (by decide), List.getElem?_set_ne (by decide)]
            exact e1
          | 3, e => cases e; trivial
          | 4, e => cases e; trivial
          | 5, e =>
            cases e
            refine ⟨.int (0 + (i : Int)), ?_, .int _⟩
            show ((σ.set 5 none).set 5 _)[5]? = _
            rw [List.getElem?_set_self (by rw [List.length_set, hl]; decide)]
          | 6, e => cases e; trivial
          | 7, e => cases e; trivial
        · have mem := List.mem_of_getElem? e
          simp at mem
      · refine ⟨_, rfl, _, rfl, by omega, by omega, ?_⟩
        rw [Int.toNat_natCast]
        refine ⟨by rw [rngD_len]; exact Nat.le_trans n6 (by decide), fun p hp => ⟨fun j acc k' => acc = ((List.range j).map fun j => if i = j then (1 : Int) else 2).map .int, rfl, ?_, ?_⟩⟩
        · rintro j d acc k' hd rfl _
          obtain ⟨hj, rfl⟩ := rngD_at hd
          refine iteT ⟨_, rfl, _, rfl, rfl, rfl, _, rfl, ?_⟩
          rw [eqvI]
          refine iteD (fun e => ?_) fun e => ?_
          · show _ = ((List.range (j + 1)).map _).map _
            rw [range_step, List.map_append, if_pos (by omega)]; rfl
          · show _ = ((List.range (j + 1)).map _).map _
            rw [range_step, List.map_append, if_neg (by omega)]; rfl
        · rintro acc k' rfl _
          rw [rngD_len]
          rfl
      · rintro ds k' rfl q H5 nl
        obtain ⟨vs, hq5, ra⟩ := nl.vals
        obtain rfl := ra.ints_v
        have kp5 : Keep none X0 H'' H5 := Keep.rep nl.rep (fun _ _ => by simp [Ml]) xs2
        have fq : H'' q = none := nl.new
        have nDq : D ≠ q := fun z => by have := mx.top; rw [z, fq] at this; cases this
        have nqs : q ∉ qs := fun z => by
          obtain ⟨j, hj⟩ := List.getElem?_of_mem z
          have hj2 : j < i := by have := (List.getElem?_eq_some_iff.mp hj).1; rw [mx.len, List.length_map, List.length_range] at this; exact this
          have := mx.row j q _ hj (by rw [List.getElem?_map, List.getElem?_range hj2]; rfl)
          rw [fq] at this
          cases this
        have d5 := kp5.at (by simp [Ml]) mx.top
        refine ⟨qs.map V.ref, d5, by rw [List.length_map, mx.len, List.length_map, List.length_range]; exact Nat.lt_of_lt_of_le (by omega : i < 6) (by decide), qs ++ [q], (kp.trans kp5).mut xs hD (.at_ d5), fun b hb => ?_, ?_⟩
        · rcases List.mem_append.mp hb with hb | hb
          · exact fr b hb
          · simp at hb
            subst hb
            exact kp.fresh (by simp [Ml]) fq
        · refine ⟨by rw [upd_same, List.map_append]; rfl, by rw [List.length_append, mx.len]; simp, fun j b r hb hr => ?_, ?_, ?_⟩
          · have nbD : b ≠ D := fun z => by
              have hb2 := List.mem_of_getElem? hb
              rcases List.mem_append.mp hb2 with h2 | h2
              · exact mx.out (z ▸ h2)
              · simp at h2
                exact nDq (z ▸ h2)
            rw [upd_ne nbD]
            rw [range_step] at hr
            have lq : qs.length = i := by rw [mx.len, List.length_map, List.length_range]
            by_cases hj : j < i
            · rw [List.getElem?_append_left (by rw [lq]; exact hj)] at hb
              rw [List.getElem?_append_left (by rw [List.length_map, List.length_range]; exact hj)] at hr
              exact kp5.at (by simp [Ml]) (mx.row j b r hb hr)
            · rw [List.getElem?_append_right (by rw [lq]; omega)] at hb
              rw [List.getElem?_append_right (by rw [List.length_map, List.length_range]; omega)] at hr
              rw [lq] at hb
              rw [List.length_map, List.length_range] at hr
              have ej : j - i = 0 := by
                have := (List.getElem?_eq_some_iff.mp hb).1
                simp at this
                omega
              rw [ej] at hb hr
              cases hb
              cases hr
              exact hq5
          · exact List.nodup_append.mpr ⟨mx.nd, by simp, fun a ha b hb => by
              simp at hb
              subst hb
              exact fun z => nqs (z ▸ ha)⟩
          · intro z
            rcases List.mem_append.mp z with z | z
            · exact mx.out z
            · simp at z
              exact nDq z
  · have e : i = n := by omega
    subst e
    exact .inl ⟨Nat.le_refl _, h D qs H' kp hD fr mx⟩
def fm (n : Nat) (f : Nat → Nat → Int) : Mat := (List.range n).map fun i => (List.range n).map fun j => f i j
structure Gd (n : Nat) (f : Nat → Nat → Int) : Prop where
  dg : ∀ i, f i i = 1
  of : ∀ i j, i ≠ j → f i j = 2 ∨ f i j = 3 ∨ f i j = 4 ∨ f i j = 6 ∨ f i j = 0
  sy : ∀ i j, f i j = f j i
theorem fm_len (n : Nat) (f : Nat → Nat → Int) : (fm n f).length = n := by unfold fm; rw [List.length_map, List.length_range]
theorem fm_row {n : Nat} {f : Nat → Nat → Int} {i : Nat} (h : i < n) : (fm n f).getD i [] = (List.range n).map fun j => f i j := by unfold fm; rw [getD_range h]
theorem fm_at {n : Nat} {f : Nat → Nat → Int} {i j : Nat} (hi : i < n) (hj : j < n) : at2 (fm n f) i j = f i j := by
  unfold at2
  rw [fm_row hi, getD_range hj]
theorem tab_fm {n : Nat} {f : Nat → Nat → Int} (n1 : 1 ≤ n) (n6 : n ≤ 6) (g : Gd n f) : Tab (fm n f) := by
  refine ⟨by rw [fm_len]; exact n1, by rw [fm_len]; exact n6, fun i hi => ?_, fun i hi => ?_, fun i j hi hj ne => ?_, fun i j hi hj => ?_⟩
  · rw [fm_len] at hi ⊢
    rw [fm_row hi, List.length_map, List.length_range]
  · rw [fm_len] at hi
    rw [fm_at hi hi]
    exact g.dg i
  · rw [fm_len] at hi hj
    rw [fm_at hi hj]
    exact g.of i j ne
  · rw [fm_len] at hi hj
    rw [fm_at hi hj, fm_at hj hi]
    exact g.sy i j
theorem fm_id (n : Nat) : idM n = fm n fun i j => if i = j then 1 else 2 := rfl
theorem gd_id (n : Nat) : Gd n fun i j => if i = j then 1 else 2 := ⟨fun i => if_pos rfl, fun i j h => .inl (if_neg h), fun i j => by

  by_cases h : i = j
  · rw [if_pos h, if_pos h.symm]
  · rw [if_neg h, if_neg (fun z => h z.symm)]⟩
def fsw (f : Nat → Nat → Int) (a b : Nat) (v : Int) : Nat → Nat → Int := fun i j => if (i = a ∧ j = b) ∨ (i = b ∧ j = a) then v else f i j
theorem gd_sw {n : Nat} {f : Nat → Nat → Int} (g : Gd n f) {a b : Nat} (ne : a ≠ b) {v : Int} (hv : v = 2 ∨ v = 3 ∨ v = 4 ∨ v = 6 ∨ v = 0) : Gd n (fsw f a b v) := by
  refine ⟨fun i => ?_, fun i j h => ?_, fun i j => ?_⟩
  · unfold fsw
    rw [if_neg (by omega)]
    exact g.dg i
  · unfold fsw
    split
    · exact hv
    · exact g.of i j h
  · unfold fsw
    by_cases h : (i = a ∧ j = b) ∨ (i = b ∧ j = a)
    · rw [if_pos h, if_pos (by omega)]
    · rw [if_neg h, if_neg (by omega)]
      exact g.sy i j
theorem fm_sw {n : Nat} {f : Nat → Nat → Int} {a b : Nat} {v : Int} (ha : a < n) (hb : b < n) (ne : a ≠ b) : ((fm n f).set a (((fm n f).getD a []).set b v)).set b (((fm n f).getD b []).set a v) = fm n (fsw f a b v) := by
  have r1 : ((fm n f).getD a []).set b v = (List.range n).map fun j => fsw f a b v a j := by
    rw [fm_row ha]
    refine set_range fun j hj => ?_
    unfold fsw
    by_cases e : j = b
    · rw [if_pos e, if_pos (.inl ⟨rfl, e⟩)]
    · rw [if_neg e, if_neg (by omega)]
  have r2 : ((fm n f).getD b []).set a v = (List.range n).map fun j => fsw f a b v b j := by
    rw [fm_row hb]
    refine set_range fun j hj => ?_
    unfold fsw
    by_cases e : j = a
    · rw [if_pos e, if_pos (.inr ⟨rfl, e⟩)]
    · rw [if_neg e, if_neg (by omega)]
  rw [r1, r2]
  show (((List.range n).map fun i => (List.range n).map fun j => f i j).set a _).set b _ = _
  rw [set_range (g' := fun i => if i = a then (List.range n).map (fun j => fsw f a b v a j) else (List.range n).map (fun j => f i j)) (fun j _ => rfl)]
  refine set_range fun i hi => ?_
  by_cases e : i = b
  · rw [if_pos e, e]
  · rw [if_neg e]
    by_cases e2 : i = a
    · rw [if_pos e2, e2]
    · rw [if_neg e2]
      refine List.map_congr_left fun j hj => ?_
      unfold fsw
      rw [if_neg (by omega)]
abbrev tSw (K : PySem.W.Frag) : TS := tAsg (tTup (tCons (tVar 7) (tCons (tVar 7) tNil))) (gTup K 2 (gCons (gSub (tOp (rIxL K) (tVar 4) (tVar 5)) (tVar 6) rSetL) (gCons (gSub (tOp (rIxL K) (tVar 4) (tVar 6)) (tVar 5) rSetL) gNil)))
theorem swap_tab {K : PySem.W.Frag} {σ : L2.St} {H : Hp} {D : Ends} {p : Addr} {qs : List Addr} {n : Nat} {f : Nat → Nat → Int} {a b : Nat} {v x y : Int} (hx : x = a) (hy : y = b) (mx : Mx H p qs (fm n f)) (ha : a < n) (hb : b < n) (ne : a ≠ b) (e4 : σ[4]? = some (some (V.ref p))) (e5 : σ[5]? = some (some (V.int x))) (e6 : σ[6]? = some (some (V.int y))) (e7 : σ[7]? = some (some (V.int v)))
    (h : ∀ H', (∀ x o, x ∉ qs → H x = some o → H' x = some o) → TbK H H' → Mx H' p qs (fm n (fsw f a b v)) → D.nx σ H') : tSw K D σ H := by
  subst hx hy
  have lq : qs.length = n := by rw [mx.len, fm_len]
  have ln := fm_len n f
  obtain ⟨q1, hq1⟩ : ∃ q, qs[a]? = some q := ⟨qs[a]'(by omega), List.getElem?_eq_getElem _⟩
  obtain ⟨q2, hq2⟩ : ∃ q, qs[b]? = some q := ⟨qs[b]'(by omega), List.getElem?_eq_getElem _⟩
  have m1 : (fm n f)[a]? = some ((fm n f).getD a []) := getD_get (by omega)
  have m2 : (fm n f)[b]? = some ((fm n f).getD b []) := getD_get (by omega)
  have l1 : ((fm n f).getD a []).length = n := by rw [fm_row ha, List.length_map, List.length_range]
  have l2 : ((fm n f).getD b []).length = n := by rw [fm_row hb, List.length_map, List.length_range]
  refine ⟨_, e7, _, e7, by show 2 ≤ sizeLine; decide, fun T hT => ⟨T, [.int v, .int v], rfl, SqT.of upd_same, rfl, _, _, rfl, ?_⟩⟩
  have mxT : Mx (upd H T (.tup [V.int v, V.int v])) p qs (fm n f) := mx.keepT hT
  have hset1 := mxT.set hq1 (((fm n f).getD a []).set b v)
  refine ⟨_, e4, _, e5, p, qs.map V.ref, _, .ref q1, rfl, rfl, SqL.of mxT.top, atI_nat (by rw [List.getElem?_map, hq1]; rfl), ?_⟩
  refine ⟨_, e6, q1, ((fm n f).getD a []).map V.int, _, b, rfl, rfl, mxT.row a q1 _ hq1 m1, ixN_nat (j := b) (by rw [List.length_map, l1]; exact hb), ?_⟩
  refine ⟨_, _, rfl, ?_⟩
  have e1 : (((fm n f).getD a []).map V.int).set b (V.int v) = (((fm n f).getD a []).set b v).map V.int := by rw [List.map_set]
  rw [e1]
  refine ⟨_, e4, _, e6, p, qs.map V.ref, _, .ref q2, rfl, rfl, SqL.of hset1.top, atI_nat (j := b) (by rw [List.getElem?_map, hq2]; rfl), ?_⟩
  have m2' : ((fm n f).set a (((fm n f).getD a []).set b v))[b]? = some ((fm n f).getD b []) := by rw [List.getElem?_set_ne ne]; exact m2
  refine ⟨_, e5, q2, ((fm n f).getD b []).map V.int, _, a, rfl, rfl, hset1.row b q2 _ hq2 m2', ixN_nat (by rw [List.length_map, l2]; exact ha), rfl, ?_⟩
  have e2 : (((fm n f).getD b []).map V.int).set a (V.int v) = (((fm n f).getD b []).set a v).map V.int := by rw [List.map_set]
  rw [e2]
  refine h _ (fun x o hx ex => ?_) ((TbK.new hT).trans ((TbK.at_ (mxT.row a q1 _ hq1 m1)).trans (TbK.at_ (hset1.row b q2 _ hq2 m2')))) ?_
  · rw [upd_ne (fun z => hx (by rw [z]; exact List.mem_of_getElem? hq2)), upd_ne (fun z => hx (by rw [z]; exact List.mem_of_getElem? hq1)), upd_ne (ne_of_none ex hT)]
    exact ex
  · have := hset1.set hq2 (((fm n f).getD b []).set a v)
    rw [fm_sw ha hb ne] at this
    exact this
structure S8 (m : Mc) (n : Nat) (way : Int) (p : Addr) (σ : L2.St) : Prop where
  len : σ.length = 8
  e0 : σ[0]? = some (some (.ref m.pm))
  e2 : σ[2]? = some (some (.int n))
  e3 : σ[3]? = some (some (.int way))
  e4 : σ[4]? = some (some (.ref p))
theorem S8.set {m : Mc} {n : Nat} {way : Int} {p : Addr} {σ : L2.St} (h : S8 m n way p σ) {i : Nat} (hi : 5 ≤ i) (v : Option V) : S8 m n way p (σ.set i v) :=
  ⟨by rw [List.length_set]; exact h.len, by rw [List.getElem?_set_ne (by omega)]; exact h.e0, by rw [List.getElem?_set_ne (by omega)]; exact h.e2, by rw [List.getElem?_set_ne (by omega)]; exact h.e3, by rw [List.getElem?_set_ne (by omega)]; exact h.e4⟩
theorem rep8 {K : PySem.W.Frag} {m : Mc} {n : Nat} {way a b : Int} {p : Addr} {X0 : List Addr} {σ : L2.St} {H : Hp} {k : Nat} (xm : ∀ a ∈ X0, a ∉ Ml (some m)) (xs : ∀ a ∈ X0, H a ≠ none) (xt : ∀ a ∈ X0, ∀ ps, H a ≠ some (.tbl ps)) (h : S8 m n way p σ) (e5 : σ[5]? = some (some (.int a))) (e6 : σ[6]? = some (some (.int b))) (hm : MAt (some m) H k) :
    Rep ⟨K, some m, X0, H, []⟩ ⟨X0, [.mst, .no, .dat (.int n), .dat (.int way), .no, .dat (.int a), .dat (.int b), .no], k⟩ σ H := by
  refine rep_of xm xs xt h.len.symm hm (fun i x e => ?_) (fun i p ds e => ?_)
  · match i, e with
    | 0, e => cases e; exact ⟨m, rfl, h.e0⟩
    | 1, e => cases e; trivial
    | 2, e => cases e; exact ⟨_, h.e2, .int _⟩
    | 3, e => cases e; exact ⟨_, h.e3, .int _⟩
    | 4, e => cases e; trivial
    | 5, e => cases e; exact ⟨_, e5, .int _⟩
    | 6, e => cases e; exact ⟨_, e6, .int _⟩
    | 7, e => cases e; trivial
  · have mem := List.mem_of_getElem? e
    simp at mem
theorem le8 {K : PySem.W.Frag} {m : Mc} {n : Nat} {way a b : Int} {p : Addr} {X0 : List Addr} {σ : L2.St} {H : Hp} {k : Nat} (xm : ∀ a ∈ X0, a ∉ Ml (some m)) (xs : ∀ a ∈ X0, H a ≠ none) (xt : ∀ a ∈ X0, ∀ ps, H a ≠ some (.tbl ps)) (h : S8 m n way p σ) (e5 : σ[5]? = some (some (.int a))) (e6 : σ[6]? = some (some (.int b))) (hm : MAt (some m) H k) {t : DE} {R : D → Nat → Prop} {Q : VK}
    (ht : t ⟨X0, [.mst, .no, .dat (.int n), .dat (.int way), .no, .dat (.int a), .dat (.int b), .no], k⟩ R) (hq : ∀ d k', R d k' → ∀ v H', Keep (some m) X0 H H' → MAt (some m) H' k' → Rl K (wo H' (Ml (some m) ++ X0)) v d → Q v H') : exLE K t σ H Q :=
  ⟨⟨K, some m, X0, H, []⟩, rfl, _, R, rep8 xm xs xt h e5 e6 hm, ht, fun d k' hR v H' r a e => hq d k' hR v H' (Keep.rep r xm xs) r.m e⟩
theorem lt8 {K : PySem.W.Frag} {m : Mc} {n : Nat} {way a b : Int} {p : Addr} {X0 : List Addr} {σ : L2.St} {H : Hp} {k : Nat} (xm : ∀ a ∈ X0, a ∉ Ml (some m)) (xs : ∀ a ∈ X0, H a ≠ none) (xt : ∀ a ∈ X0, ∀ ps, H a ≠ some (.tbl ps)) (h : S8 m n way p σ) (e5 : σ[5]? = some (some (.int a))) (e6 : σ[6]? = some (some (.int b))) (hm : MAt (some m) H k) {t : DT} {R : Bool → Nat → Prop} {Q : Bool → Hp → Prop}
    (ht : t ⟨X0, [.mst, .no, .dat (.int n), .dat (.int way), .no, .dat (.int a), .dat (.int b), .no], k⟩ R) (hq : ∀ x k', R x k' → ∀ H', Keep (some m) X0 H H' → MAt (some m) H' k' → Q x H') : exLT K t σ H Q :=
  ⟨⟨K, some m, X0, H, []⟩, rfl, _, R, rep8 xm xs xt h e5 e6 hm, ht, fun d k' hR H' r a => hq d k' hR H' (Keep.rep r xm xs) r.m⟩
def sp__law_table : DSp := fun ds k R => ∃ most : Int, ds = [.int most] ∧ 1 ≤ most ∧ most ≤ 6 ∧ k < 90000000000 ∧ ∀ (T : Mat) (k' : Nat), Tab T → (T.length : Int) ≤ most → k ≤ k' → k' ≤ k + 40 → R (lM T) k'
end BW
set_option maxHeartbeats 1000000
namespace BW
open PySem L2 DL
abbrev badWord (d : D) : D := .exc "BadWord" ["place"] [d]
abbrev tooGreat (z : Int) : D := .exc "TooGreat" ["most"] [.int z]
def BadW (n : Nat) (d x : D) : Prop :=
  (d.items = none ∧ d.tname.isSome = true ∧ x = badWord .non) ∨
  (∃ xs, d.items = some xs ∧ 60 < xs.length ∧ x = tooGreat 60) ∨
  ∃ pre y post, d.items = some (pre ++ y :: post) ∧ (pre ++ y :: post).length ≤ 60 ∧ (∀ z ∈ pre, z.tname.isSome = true ∧ D.isL n z = true) ∧ y.tname.isSome = true ∧ D.isL n y = false ∧ x = badWord (.int pre.length)
end BW
set_option maxHeartbeats 1000000
namespace L2
open PySem PySem.Spec PyProof.Rows HT
end L2
namespace DL
open PySem L2
open PySem.W (Frag)
end DL
set_option maxHeartbeats 1000000
set_option maxHeartbeats 1000000
set_option maxHeartbeats 1000000
namespace BW
open PySem L2 DL
theorem drop_at {α : Type} {xs : List α} {i : Nat} {x : α} (h : xs[i]? = some x) : xs.drop i = x :: xs.drop (i + 1) := by
  obtain ⟨hi, e⟩ := List.getElem?_eq_some_iff.mp h
  rw [List.drop_eq_getElem_cons hi, e]
end BW
set_option maxHeartbeats 1000000
set_option maxHeartbeats 1000000
namespace BW
open PySem L2 DL
open PySem.W (Frag)
theorem tupIs_ok {K : Frag} {v : Value} {ns : List Int} (h : tupIs K v ns = true) : ∃ b, v = .ref b ∧ ∀ H, SqT K H b (ns.map V.int) := by
  cases v with
  | ref b =>
    refine ⟨b, rfl, fun H => ?_⟩
    unfold tupIs at h
    cases q : K.lookup b with
    | none => simp only [q] at h; cases h
    | some o =>
      obtain ⟨oc, od, dt, osl⟩ := o
      simp only [q] at h
      cases oc with
      | type c =>
        cases dt with
        | seq its n =>
          obtain ⟨h1, h2⟩ := Bool.and_eq_true_iff.mp (show (decide (c = "tuple") && (decide (its.size ≤ sizeLine) && He.relAll (ns.map V.int) its.toList)) = true from h)
          obtain ⟨h3, h4⟩ := Bool.and_eq_true_iff.mp h2
          exact .inr ⟨_, its, n, q, congrArg Value.type (of_decide_eq_true h1), rfl, of_decide_eq_true h3, He.relAll_ok h4⟩
        | _ => cases h
      | _ => cases dt <;> cases h
  | _ => cases h
theorem entB_ok {P : Program} {w : World} {K : Frag} : ∀ {es : List DictEntry} {kvs : List (Int × List Int)}, entB K es kvs = true →
    (∀ e ∈ es, ∃ k, (intKind P w).is k e.key = true ∧ e.hash = (intKind P w).hash k) ∧
    ∃ (us : List (Int × Value)) (vs : List (Int × V)), Pairs (intKind P w) es us ∧ us.map (·.1) = kvs.map (·.1) ∧ KV vs us ∧ ∀ H, KvA K H vs (kvs.map fun q => (q.1, tI q.2))
  | [], [], _ => ⟨fun _ h => (nomatch h), [], [], .nil, rfl, .nil, fun _ => .nil⟩
  | [], _ :: _, h => by cases h
  | _ :: _, [], h => by cases h
  | e :: es, (k, ns) :: r, h => by
    obtain ⟨h1, h2⟩ := Bool.and_eq_true_iff.mp (show ((match e.key with | .int j _ => decide (j = k) && decide (e.hash = hashInt k) | _ => false) && (tupIs K e.val ns && entB K es r)) = true from h)
    obtain ⟨h3, h4⟩ := Bool.and_eq_true_iff.mp h2
    obtain ⟨ih1, us, vs, ih2, ih3, ih4, ih5⟩ := entB_ok (P := P) (w := w) h4
    obtain ⟨b, hb, hs⟩ := tupIs_ok h3
    have key : (intKind P w).is k e.key = true ∧ e.hash = (intKind P w).hash k := by
      cases q : e.key with
      | int j t =>
        rw [q] at h1
        obtain ⟨h5, h6⟩ := Bool.and_eq_true_iff.mp (show (decide (j = k) && decide (e.hash = hashInt k)) = true from h1)
        have h5 := of_decide_eq_true h5
        subst h5
        exact ⟨by simp [intKind, Value.isInt], of_decide_eq_true h6⟩
      | _ => rw [q] at h1; cases h1
    refine ⟨fun x hx => ?_, (k, .ref b) :: us, (k, .ref b) :: vs, ?_, by rw [List.map_cons, List.map_cons, ih3], .cons ⟨rfl, rfl⟩ ih4, fun H => .cons (.tup (hs H) (RlA.ints ns)) (ih5 H)⟩
    · rcases List.mem_cons.mp hx with rfl | hx
      · exact ⟨k, key⟩
      · exact ih1 x hx
    · rw [← hb]
      exact .cons key.1 rfl ih2
theorem kdB_ok {P : Program} {w : World} {K : Frag} {mg : PySem.Str → Option Value} {x : PySem.Str} {kvs : List (Int × List Int)} (h : kdB K x kvs = true) (hm : mg x = some (.ref (He.ga K x))) (nd : (kvs.map (·.1)).Nodup) : KdAt P w K mg x (kvs.map fun q => (q.1, tI q.2)) := by
  unfold kdB at h
  cases q : K.lookup (He.ga K x) with
  | none => simp only [q] at h; cases h
  | some o =>
    obtain ⟨oc, od, dt, osl⟩ := o
    simp only [q] at h
    cases oc with
    | type c =>
      cases od with
      | none =>
        cases dt with
        | dict es n =>
          obtain ⟨h1, h2⟩ := Bool.and_eq_true_iff.mp (show (decide (c = "dict") && (osl.isEmpty && (!(He.ga K x == sysModules) && entB K es.toList kvs))) = true from h)
          obtain ⟨h3, h4⟩ := Bool.and_eq_true_iff.mp h2
          obtain ⟨h5, h6⟩ := Bool.and_eq_true_iff.mp h4
          obtain ⟨k1, us, vs, k2, k3, k4, k5⟩ := entB_ok (P := P) (w := w) h6
          have e1 : c = "dict" := of_decide_eq_true h1
          subst e1
          refine ⟨_, us, vs, hm, by simpa using h5, fun hp hK => ⟨_, es, n, hK _ _ q, ⟨rfl, rfl, Array.isEmpty_iff.mp h3⟩, rfl, fun e he => k1 e (by simpa using he), k2, by rw [k3]; exact nd⟩, k4, k5⟩
        | _ => cases h
      | some b => cases dt <;> cases h
    | _ => cases od <;> cases dt <;> cases h
end BW
set_option maxHeartbeats 1000000
namespace BW
open PySem L2 DL
open PySem.W (Frag)
theorem txtB_ok {K : Frag} {mg : PySem.Str → Option Value} {x f : PySem.Str} {bm : List Value} {B newId initId : String} {q : PySem.Str} {p1 p2 q1 q2 q3 q4 : Pos} {fd : FuncData} (hB : XE1.Base B newId initId bm) (h : txtB K x f bm newId = true) (g : mg x = some (.ref (He.ga K x))) (fx : f = "place" ∨ f = "value" ∨ f = "most")
    (D : FunD K "__init__" q (XE1.iA f p1 p2) (XE1.iB f q1 q2 q3 q4) (XE1.iS f) [] [] (He.fAd K (x, some "__init__")) fd) : XE1.Txt K mg x f (He.ga K x) (He.fAd K (x, some "__init__")) := by
  obtain ⟨h1, h⟩ := Bool.and_eq_true_iff.mp h
  obtain ⟨h2, h⟩ := Bool.and_eq_true_iff.mp h
  obtain ⟨h3, h⟩ := Bool.and_eq_true_iff.mp h
  obtain ⟨h4, h⟩ := Bool.and_eq_true_iff.mp h
  obtain ⟨h5, h⟩ := Bool.and_eq_true_iff.mp h
  obtain ⟨h6, h⟩ := Bool.and_eq_true_iff.mp h
  obtain ⟨h7, h⟩ := Bool.and_eq_true_iff.mp h
  obtain ⟨h8, h⟩ := Bool.and_eq_true_iff.mp h
  obtain ⟨h9, h10⟩ := Bool.and_eq_true_iff.mp h
  obtain ⟨oc, od, dV, kV, doc, pm, an, cdv, ct, osl, rfl, lk, hcd, hD, hK⟩ := D.ex
  have e1 : dV = .none := by
    rcases hD with ⟨_, e⟩ | ⟨e, _⟩
    · exact e
    · exact absurd rfl e
  subst e1
  exact ⟨g, ⟨B, newId, initId, bm, hB, h1, h2⟩, of_decide_eq_true h3, h4, of_decide_eq_true h5, of_decide_eq_true h6, of_decide_eq_true h7, h8, of_decide_eq_true h9, of_decide_eq_true h10, fx, oc, od, kV, doc, pm, an, cdv, ct, osl, q, p1, p2, q1, q2, q3, q4, lk, hcd⟩
theorem exmB_ok {K : Frag} (h : exmB K = true) : ∀ n ∈ T6N, PySem.W.exmAny K (.ref (He.ga K n)) [.ref (He.ga K "BondError"), .ref (He.ga K "TooGreat")] = some true := fun n hn => of_decide_eq_true (List.all_eq_true.mp h n hn)
theorem Rep.root {c : C} {s : S} {σ : L2.St} {H : Hp} {ow : List Nat} (r : Rep c s σ H) (h : c.X0 = []) : Rep ⟨c.K, c.M, [], fun _ => none, ow⟩ s σ H := by
  refine ⟨fun a o e => ?_, fun a ha => (nomatch ha), fun a ha => (nomatch ha), r.xm, r.xs, r.m, fun i x e => ?_, r.apart, r.len, tbk_none (fun _ _ z => nomatch z), r.xt⟩
  · have := (wo_all e).2.1
    cases this
  · have q := r.slot i x e
    cases x with
    | own p ds =>
      obtain ⟨e', h1, h2, h3, vs, h4, h5⟩ := q
      exact ⟨e', h1, fun z => (nomatch z), rfl, vs, h4, h5⟩
    | no => exact q
    | dat d => exact q
    | mst => exact q
    | scr ns => exact q
end BW
set_option maxHeartbeats 1000000
set_option autoImplicit false
namespace DL
open PySem PySem.Spec PyProof.Rows L2
open PySem.W (Frag)
end DL
set_option autoImplicit false
namespace BW
open PySem L2 DL
def sp__law_classU (K : PySem.W.Frag) : DSp := fun ds k R => sp__law_class K ds k R ∨ (ds = [.exc "Unlike" [] []] ∧ ("Unlike" : PySem.Str) ∈ NU ∧ R (.tup [.str "Unlike"]) k)
theorem r_ctailU (K : PySem.W.Frag) (X : List Addr) (x1 : Sl) (k : Nat) (R : D → Nat → Prop) (h : R (.tup [.str "Unlike"]) k) :
    t_ctail K (En R) ⟨X, [.dat (.exc "Unlike" [] []), x1, .dat (.lst [.str "Unlike"]), .no, .no], k⟩ := by
  refine ⟨_, rfl, rfl, rfl, _, rfl, iteF ?_⟩
  refine ⟨_, rfl, _, _, rfl, rfl, by show 3 ≤ lim; decide, rfl, _, rfl, rfl, _, rfl, Eq.mpr (if_neg (by decide)) ?_⟩
  refine ⟨_, rfl, _, _, rfl, rfl, by show 2 ≤ lim; decide, rfl, _, rfl, rfl, _, rfl, Eq.mpr (if_neg (by decide)) ?_⟩
  exact fun X => ⟨_, rfl, _, _, rfl, rfl, _, rfl, Eq.mpr (if_neg (by decide)) ⟨by show 1 ≤ lim; decide, h⟩⟩
theorem r_clsU (K : PySem.W.Frag) (hX : XAll K) (hU : ("Unlike" : PySem.Str) ∈ NU) (X : List Addr) (k : Nat) (R : D → Nat → Prop) (h : R (.tup [.str "Unlike"]) k) : t__law_class K (En R) (St0 false 5 [.exc "Unlike" [] []] X k) := by
  obtain ⟨n, hn⟩ : ∃ n : PySem.Str, n = "Unlike" := ⟨_, rfl⟩
  have hk := hX.ek n (hn ▸ hU)
  have his := hX.is n (hn ▸ hU)
  have hn7 : n ∈ N7 := by rw [hn]; decide
  have tl : ∀ (X : List Addr) (x1 : Sl) (k : Nat), R (.tup [.str "Unlike"]) k → t_ctail K (En R) ⟨X, [.dat (.exc n [] []), x1, .dat (.lst [.str n]), .no, .no], k⟩ := by rw [hn]; exact fun X x1 k h => r_ctailU K X x1 k R h
  rw [← hn]
  refine ⟨_, rfl, n, _, _, _, rfl, hk, his "BadBonds" (by decide), by show 2 ≤ lim; decide, _, rfl, n, _, _, _, rfl, hk, his "BadWord" (by decide), by show 2 ≤ lim; decide, by show 2 ≤ lim; decide, fun p1 hp1 => ?_⟩
  refine ⟨p1, _, rfl, _, rfl, n, _, _, _, rfl, hk, his "BadRow" (by decide), by show 2 ≤ lim; decide, _, rfl, n, _, _, _, rfl, hk, his "BadDeed" (by decide), by show 2 ≤ lim; decide, by show 2 ≤ lim; decide, _, rfl, by show 2 + 2 ≤ lim; decide, fun p2 hp2 => ?_⟩
  refine ⟨p2, _, rfl, _, rfl, n, _, _, _, rfl, hk, his "BadNumber" (by decide), by show 2 ≤ lim; decide, _, rfl, n, _, _, _, rfl, hk, his "Unlike" (by decide), by show 2 ≤ lim; decide, by show 2 ≤ lim; decide, _, rfl, by show 4 + 2 ≤ lim; decide, fun p3 hp3 => ?_⟩
  refine ⟨p3, _, rfl, _, rfl, n, _, _, _, rfl, hk, his "TooGreat" (by decide), by show 2 ≤ lim; decide, by show 6 < lim; decide, fun X' => ?_⟩
  refine ⟨_, rfl, _, rfl, by show 7 ≤ lim; decide, fun q hq => ⟨fun j acc k' => k' = k ∧ acc = ((N7.take j).filter (fun m => decide (n = m))).map D.str, ⟨rfl, rfl⟩, ?_, ?_⟩⟩
  · rintro j d acc k' hd ⟨rfl, rfl⟩ _
    have hd : (N7.map fun m => D.tup [.str m, .bl (decide (n = m))])[j]? = some d := hd
    rw [List.getElem?_map] at hd
    obtain ⟨m, hj, rfl⟩ := Option.map_eq_some_iff.mp hd
    have st : (N7.take (j + 1)).filter (fun m => decide (n = m)) = (N7.take j).filter (fun m => decide (n = m)) ++ if decide (n = m) = true then [m] else [] := by
      rw [List.take_succ, hj, List.filter_append]
      congr 1
      by_cases q : decide (n = m) = true
      · rw [if_pos q]; exact List.filter_cons_of_pos q
      · rw [if_neg q]; exact List.filter_cons_of_neg q
    refine ⟨rfl, rfl, _, rfl, _, rfl, ?_⟩
    cases c : decide (n = m) with
    | false => exact iteF ⟨rfl, by rw [st, c, if_neg (by decide), List.append_nil]⟩
    | true =>
      refine iteT ⟨_, rfl, rfl, ?_⟩
      rw [st, c, if_pos rfl, List.map_append]
      rfl
  · rintro acc k' ⟨rfl, rfl⟩ _
    have e2 : ((N7.take 7).filter (fun m => decide (n = m))).map D.str = [.str n] := by rw [show N7.take 7 = N7 from rfl, filt7 n hn7]; rfl
    show t_ctail K (En R) ⟨X', [.dat (.exc n [] []), _, .dat (.lst (((N7.take 7).filter (fun m => decide (n = m))).map D.str)), .no, .no], k'⟩
    rw [e2]
    exact tl X' _ k' h
theorem r__law_classU (K : PySem.W.Frag) (hX : XAll K) (X : List Addr) (ds : List D) (k : Nat) (R : D → Nat → Prop) (h : sp__law_classU K ds k R) : t__law_class K (En R) (St0 false 5 ds X k) := by
  rcases h with h | ⟨rfl, hU, h⟩
  · exact r__law_class K hX X ds k R h
  · exact r_clsU K hX hU X k R h
end BW
set_option maxHeartbeats 1000000
namespace BW
open PySem L2 DL
def TpB (T : Mat) (w v : List Int) : Prop := row T w = row T v ∧ (wd T 60 (row T w)).1.length = w.length ∧ (wd T 60 (row T v)).1.length = v.length
theorem sh_iff {T : Mat} (ht : Tab T) {w : List Int} (hw : Wd T.length w) (hl : w.length ≤ 60) : (wd T 60 (row T w)).1.length = w.length ↔ Sh T w := by
  obtain ⟨k, h, hk⟩ := LN.has hw
  have e := len60 ht hw h (by omega)
  rw [e]
  constructor
  · intro z
    show LN T w w.length
    rw [← z]; exact h
  · exact fun z => h.uniq z
theorem Tp.b {T : Mat} (ht : Tab T) {w v : List Int} (hl : w.length ≤ 60) (hm : v.length ≤ 60) (h : Tp T w v) : TpB T w v := ⟨h.al, (sh_iff ht h.hw hl).mpr h.sw, (sh_iff ht h.hv hm).mpr h.sv⟩
end BW
set_option maxHeartbeats 1000000
namespace BW
open PySem L2 DL
theorem Tp.symm {T : Mat} {w v : List Int} (h : Tp T w v) : Tp T v w := ⟨h.hv, h.hw, h.sv, h.sw, h.al.symm⟩
theorem Tp.refl {T : Mat} {w : List Int} (hw : Wd T.length w) (hs : Sh T w) : Tp T w w := ⟨hw, hw, hs, hs, rfl⟩
theorem Tp.turn {T : Mat} (ht : Tab T) {w v u : List Int} {k : Nat} (h : Tp T w v) (hm : mv T v (.turn k) = some u) : Tp T w u := by
  have wu : Wd T.length u := mv_wd (e := .turn k) h.hv trivial hm
  have ru : row T u = row T v := mv_row ht (e := .turn k) h.hv trivial hm
  have lu := Ws.all.mv_turn_len0 hm
  refine ⟨h.hw, wu, h.sw, ?_, h.al.trans ru.symm⟩
  show LN T u u.length
  rw [lu]
  exact h.sv.cong h.hv wu ru.symm
end BW
namespace BW
open PySem
def fw (c : List Int) (r : List Int) : List Int := (fall r).filter fun a => decide (a ∈ c)
def we (T : Mat) (c : List Int) : Nat → List Int → List Int → List Int × List Int
  | 0, r, q => (r, q)
  | n + 1, r, q => match fw c r with
    | [] => (r, q)
    | a :: _ => we T c n (press T r (ix a)) (a :: q)
def ptf (T : Mat) (c w : List Int) : List Int := lw T (w ++ (we T c 60 (row T w) []).2.reverse)
def ptr (T : Mat) (c w : List Int) : List Int := lw T (we T c 60 (row T w) []).2
def pbf (T : Mat) (c w : List Int) : List Int := lw T (lw T (w.reverse ++ (we T c 60 (row T w.reverse) []).2.reverse)).reverse
def pbr (T : Mat) (c w : List Int) : List Int := lw T (we T c 60 (row T w.reverse) []).2.reverse
end BW
namespace PySem
end PySem
namespace L2
open PySem
open PyProof.Rows (IntsAre)
end L2
namespace DL
open PySem L2
open PySem.W (Frag)
end DL
set_option maxHeartbeats 1000000
set_option maxHeartbeats 1000000
set_option maxHeartbeats 1000000
namespace BW
open PySem L2 DL
def Rn (T : Mat) : List Int → List Deed → List Int → Prop
  | w, [], v => v = w
  | w, e :: r, v => ∃ u, e.fits T.length w.length ∧ mv T w e = some u ∧ (e.isIn = true → w.length + 2 ≤ 30) ∧ Rn T u r v
theorem Rn.wd {T : Mat} : ∀ {es : List Deed} {w v : List Int}, Rn T w es v → Wd T.length w → Wd T.length v
  | [], w, v, h, hw => by
    have h : v = w := h
    subst h
    exact hw
  | e :: r, w, v, ⟨x, h1, h2, h3, h4⟩, hw => Rn.wd h4 (mv_wd hw h1 h2)
end BW
set_option maxHeartbeats 1000000
namespace BW
open PySem L2 DL
theorem two_cut {w : List Int} {k m : Nat} : w = w.take k ++ (w.drop k).take m ++ w.drop (k + m) := by
  have h : w.drop (k + m) = (w.drop k).drop m := by rw [List.drop_drop]
  rw [h, List.append_assoc, List.take_append_drop, List.take_append_drop]
theorem mv_back {T : Mat} (ht : Tab T) {w v : List Int} {e : Deed} (hw : Wd T.length w) (he : e.fits T.length w.length) (h : mv T w e = some v) : (bk w e).fits T.length v.length ∧ mv T v (bk w e) = some w := by
  cases e with
  | inn k a =>
    have hk : k ≤ w.length := he.1
    have e1 : v = w.take k ++ [a, a] ++ w.drop k := by cases h; rfl
    have l1 : (w.take k).length = k := by rw [List.length_take]; omega
    have e2 : v = w.take k ++ (a :: a :: w.drop k) := by rw [e1, List.append_assoc]; rfl
    have g0 : v.getD k 0 = a := by
      rw [e2, List.getD_eq_getElem?_getD, List.getElem?_append_right (by omega), l1, Nat.sub_self]; rfl
    have g1 : v.getD (k + 1) 0 = a := by
      rw [e2, List.getD_eq_getElem?_getD, List.getElem?_append_right (by omega), l1, show k + 1 - k = 1 by omega]; rfl
    refine ⟨trivial, ?_⟩
    show mv T v (.out k) = some w
    have lv : v.length = w.length + 2 := by rw [e2, List.length_append, l1, List.length_cons, List.length_cons, List.length_drop]; omega
    rw [mv_out, g0, g1, if_pos ⟨by omega, rfl⟩]
    have t1 : v.take k = w.take k := by rw [e2, List.take_left' l1]
    have d1 : v.drop (k + 2) = w.drop k := by
      have e3 : v = (w.take k ++ [a, a]) ++ w.drop k := e1
      rw [e3, List.drop_left' (by rw [List.length_append, l1]; rfl)]
    rw [t1, d1, List.take_append_drop]
  | out k =>
    rw [mv_out] at h
    split at h
    case isFalse => cases h
    rename_i c
    cases h
    obtain ⟨c1, c2⟩ := c
    have l1 : (w.take k).length = k := by rw [List.length_take]; omega
    have ga : w[k]? = some (w.getD k 0) := by rw [List.getD_eq_getElem?_getD, List.getElem?_eq_getElem (by omega)]; rfl
    have gb : w[k + 1]? = some (w.getD k 0) := by rw [c2, List.getD_eq_getElem?_getD, List.getElem?_eq_getElem c1]; rfl
    have wa := hw (w.getD k 0) (List.mem_of_getElem? ga)
    refine ⟨⟨by rw [List.length_append, l1]; omega, wa.1, wa.2⟩, ?_⟩
    show some (((w.take k ++ w.drop (k + 2)).take k ++ [w.getD k 0, w.getD k 0]) ++ (w.take k ++ w.drop (k + 2)).drop k) = some w
    rw [List.take_left' l1, List.drop_left' l1]
    congr 1
    have e3 : w.drop k = w.getD k 0 :: w.getD k 0 :: w.drop (k + 2) := by
      have q1 := drop_at ga
      have q2 := drop_at gb
      rw [q1, q2]
    have e4 := List.take_append_drop k w
    rw [e3] at e4
    rw [List.append_assoc]
    exact e4
  | turn k =>
    refine ⟨trivial, ?_⟩
    show mv T v (.turn k) = some w
    rw [mv_turn] at h
    split at h
    case isFalse => cases h
    rename_i c
    split at h
    case isFalse => cases h
    rename_i c2
    cases h
    have ga : w[k]? = some (w.getD k 0) := by rw [List.getD_eq_getElem?_getD, List.getElem?_eq_getElem (by omega)]; rfl
    have gb : w[k + 1]? = some (w.getD (k + 1) 0) := by rw [List.getD_eq_getElem?_getD, List.getElem?_eq_getElem c.1]; rfl
    have wa := hw _ (List.mem_of_getElem? ga)
    have wb := hw _ (List.mem_of_getElem? gb)
    obtain ⟨i, ei⟩ : ∃ i : Nat, w.getD k 0 = (i : Int) + 1 := ⟨(w.getD k 0 - 1).toNat, by omega⟩
    obtain ⟨j, ej⟩ : ∃ j : Nat, w.getD (k + 1) 0 = (j : Int) + 1 := ⟨(w.getD (k + 1) 0 - 1).toNat, by omega⟩
    rw [ei, ej] at c c2 ⊢
    rw [ei] at wa
    rw [ej] at wb
    have hi : i < T.length := by omega
    have hj : j < T.length := by omega
    have nij : i ≠ j := fun z => c.2 (by rw [z])
    rw [ix_succ, ix_succ] at c2 ⊢
    have l1 : (w.take k).length = k := by rw [List.length_take]; omega
    have q := turn_at ht (h := w.take k) hj hi (fun z => nij z.symm) (by rw [← ht.sy i j hi hj]; have := c2.1; omega)
    rw [← ht.sy i j hi hj, l1] at q
    have q := mv_suf (z := w.drop (k + (at2 T i j).toNat)) q
    rw [q, ← c2.2]
    exact congrArg some two_cut.symm
def bks (T : Mat) : List Int → List Deed → List Deed
  | _, [] => []
  | w, e :: r => bk w e :: bks T ((mv T w e).getD w) r
def Ld (T : Mat) : List Int → List Deed → List Int → Prop
  | w, [], v => v = w
  | w, e :: r, v => ∃ u, e.fits T.length w.length ∧ mv T w e = some u ∧ u.length ≤ 60 ∧ Ld T u r v
theorem Ld.app {T : Mat} : ∀ {es fs : List Deed} {w u v : List Int}, Ld T w es u → Ld T u fs v → Ld T w (es ++ fs) v
  | [], fs, w, u, v, h, g => by
    have h : u = w := h
    subst h
    exact g
  | e :: r, fs, w, u, v, ⟨x, a, b, c, d⟩, g => ⟨x, a, b, c, Ld.app d g⟩
theorem Rn.back {T : Mat} (ht : Tab T) : ∀ {es : List Deed} {w v : List Int}, Wd T.length w → w.length ≤ 60 → Rn T w es v → Ld T v (bks T w es).reverse w
  | [], w, v, hw, hl, h => by
    have h : v = w := h
    subst h
    rfl
  | e :: r, w, v, hw, hl, ⟨x, h1, h2, h3, h4⟩ => by
    have lx := mv_len h2
    have lx2 : x.length ≤ 60 := by
      by_cases c : e.isIn = true
      · rw [if_pos c] at lx
        have := h3 c
        omega
      · rw [if_neg c] at lx
        omega
    have q := Rn.back ht (mv_wd hw h1 h2) lx2 h4
    have b := mv_back ht hw h1 h2
    show Ld T v (bk w e :: bks T ((mv T w e).getD w) r).reverse w
    rw [h2]
    show Ld T v (bk w e :: bks T x r).reverse w
    rw [List.reverse_cons]
    exact q.app ⟨w, b.1, b.2, hl, rfl⟩
end BW
set_option maxHeartbeats 1000000
set_option autoImplicit false
namespace BW
open PySem L2 DL
theorem Ld.wd {T : Mat} : ∀ {es : List Deed} {w v : List Int}, Ld T w es v → Wd T.length w → w.length ≤ 60 → Wd T.length v ∧ v.length ≤ 60
  | [], w, v, h, hw, hl => by
    have h : v = w := h
    subst h
    exact ⟨hw, hl⟩
  | e :: r, w, v, ⟨x, h1, h2, h3, h4⟩, hw, hl => Ld.wd h4 (mv_wd hw h1 h2) h3
end BW
set_option maxHeartbeats 1000000
namespace DL
open PySem PySem.Spec PyProof.Rows L2
end DL
set_option maxHeartbeats 1000000
set_option autoImplicit false
namespace BW
open PySem L2 DL
theorem isW.items {d : D} {w : List Int} (h : isW d w) : d.items = some (w.map D.int) := by rcases h with rfl | rfl <;> rfl
end BW
set_option maxHeartbeats 1000000
set_option maxHeartbeats 1000000
set_option maxHeartbeats 1000000
set_option autoImplicit false
set_option maxHeartbeats 1000000
namespace DL
open PySem PySem.Spec PyProof.Rows L2 LamX
open PySem.W (Frag)
def nt (H : Hp) : Hp := fun a => match H a with
  | some (.tbl _) => none
  | o => o
section
variable {P : Program} {w : World} {K : Frag} {mg : PySem.Str → Option Value} {base : Heap}
def TTof (K : Frag) (l : List ((PySem.Str × Option PySem.Str) × PySem.Str)) : List (Addr × PySem.Str) := l.map fun x => ((He.cT K x.1).2, x.2)
theorem inT_of {K : Frag} : ∀ {l : List ((PySem.Str × Option PySem.Str) × PySem.Str)}, (l.map fun x => (He.cT K x.1).2).Nodup → ∀ {x}, x ∈ l → InT (TTof K l) (He.cT K x.1).2 x.2 := fun {l} nd {x} hx => by
  refine ⟨List.mem_map.mpr ⟨x, hx, rfl⟩, fun p hp e => ?_⟩
  obtain ⟨y, hy, rfl⟩ := List.mem_map.mp hp
  have e : (He.cT K y.1).2 = (He.cT K x.1).2 := e
  have : y = x := by
    clear hp
    induction l with
    | nil => cases hx
    | cons z r ih =>
      obtain ⟨n1, n2⟩ := List.nodup_cons.mp nd
      rcases List.mem_cons.mp hx with a | a <;> rcases List.mem_cons.mp hy with b | b
      · rw [a, b]
      · exact absurd (List.mem_map.mpr ⟨y, b, by rw [← a]; exact e⟩) n1
      · exact absurd (List.mem_map.mpr ⟨x, a, by rw [← b]; exact e.symm⟩) n1
      · exact ih n2 a b
  rw [this]
end
end DL
namespace DL
open PySem L2 L2G
open PySem.W (Frag)
mutual
def D.plo : D → Bool
  | .lst xs => ploA xs
  | .tup xs => ploA xs
  | .dic => true
  | .ins _ _ _ => false
  | .exc _ _ _ => false
  | .non => true
  | .bl _ => true
  | .int _ => true
  | .str _ => true
def ploA : List D → Bool
  | [] => true
  | d :: r => D.plo d && ploA r
end
structure ShwO (d : D) : Prop where
  plo : d.plo = true
  shw : d.shw = true
  dep : d.py.depth ≤ 60
  wg : d.wg ≤ sizeLine
end DL
set_option maxHeartbeats 1000000
set_option maxHeartbeats 1000000
namespace BW
open PySem L2 DL
def matD (T : Mat) (d : D) : Prop := ∃ rs, (d = .lst rs ∨ d = .tup rs) ∧ rs.length = T.length ∧ ∀ i, i < T.length → ∃ q, rs[i]? = some q ∧ (q = lI (T.getD i []) ∨ q = tI (T.getD i []))
theorem matD_l (T : Mat) : matD T (lM T) := ⟨T.map lI, .inl rfl, List.length_map .., fun i hi => ⟨_, by rw [List.getElem?_map, getD_get (d := []) hi]; rfl, .inl rfl⟩⟩
theorem matD_t (T : Mat) : matD T (.tup (T.map lI)) := ⟨T.map lI, .inr rfl, List.length_map .., fun i hi => ⟨_, by rw [List.getElem?_map, getD_get (d := []) hi]; rfl, .inl rfl⟩⟩
def sp_can_standU : DSp := fun ds k R => ∃ T dd a b, ds = [dd, .int a, .int b] ∧ matD T dd ∧ Tab T ∧ 1 ≤ a ∧ a ≤ T.length ∧ 1 ≤ b ∧ b ≤ T.length ∧ R (.bl true) k
def sp_check_shapeU : DSp := fun ds k R => ∃ T dd, ds = [dd] ∧ matD T dd ∧ Tab T ∧ R .non k
def sp_check_tableU : DSp := fun ds k R => ∃ T dd, ds = [dd] ∧ matD T dd ∧ Tab T ∧ R .non k
def sp_BondsU (BC : Addr) : DSp := fun ds k R => ∃ T dd, ds = [dd] ∧ matD T dd ∧ Tab T ∧ R (bnd BC T) k
abbrev t_can_standU : DS := (dSeq (dSet 3 (dOp oIx (dIxN 0 (dOp oSub (dVar 1) (dC (.int 1)))) (dOp oSub (dVar 2) (dC (.int 1)))))
  (dSeq (dIfS (dNot (dTru (dCall sp_is_whole (dCons (dVar 3) dNil)))) (dRet (dC (.bl false))) dNext)
  (dSeq (dIfS (dTB (dOp oEq (dVar 1) (dVar 2))) (dRet (dOp oEq (dVar 3) (dC (.int (1))))) dNext)
  (dSeq (dIfS (dTB (dOp oLt (dVar 1) (dVar 2))) (dRet (dKdIn kd_WEIGHTS (dVar 3))) dNext)
  (dRet (dOp oEq (dVar 3) (dOp oIx (dIxN 0 (dOp oSub (dVar 2) (dC (.int 1)))) (dOp oSub (dVar 1) (dC (.int 1))))))))))
abbrev t_check_shapeU : DS := (dSeq (dIfS (dOr (dNot (dTru (dIsi2 "list" "tuple" (dVar 0)))) (dTB (dOp oEq (dLenN 0) (dC (.int 0))))) (fun _ _ => False) dNext)
  (dSeq (dIfS (dTB (dOp oGt (dLenN 0) (dC (.int (6))))) (fun _ _ => False) dNext)
  (dFor (iSeq (dVar 0)) (dgN 1) (dIfS (dOr (dNot (dTru (dIsi2 "list" "tuple" (dVar 1)))) (dTB (dOp oNe (dLenN 1) (dLenN 0)))) (fun _ _ => False) dNext))))
abbrev t_check_tableU : DS := (dSeq (dDrop (dCall sp_check_shapeU (dCons (dVar 0) dNil)))
  (dSeq (dSet 1 (dFr (dLr2 (dC (.int 1)) (dOp oAdd (dLenN 0) (dC (.int 1))))))
  (dFor (iLst (dVar 1)) (dgN 2) (dFor (iLst (dVar 1)) (dgN 3) (dIfS (dNot (dTru (dCall sp_can_standU (dCons (dVar 0) (dCons (dVar 2) (dCons (dVar 3) dNil)))))) (fun _ _ => False) dNext)))))
theorem r_check_shapeU (X : List Addr) (ds : List D) (k : Nat) (R : D → Nat → Prop) (h : sp_check_shapeU ds k R) : t_check_shapeU (En R) (St0 false 2 ds X k) := by
  obtain ⟨T, dd, rfl, ⟨rs, hd, hl, hr⟩, ht, h⟩ := h
  have lo := ht.lo
  have hi := ht.hi
  rcases hd with rfl | rfl
  all_goals
    refine ⟨_, rfl, _, _, _, rfl, rfl, rfl, _, rfl, iteF ⟨_, rfl, rfl, rfl, _, rfl, ?_⟩⟩
    rw [eqvI, decide_eq_false (by omega)]
    refine iteF ⟨_, rfl, _, rfl, ?_⟩
    rw [decide_eq_false (by omega)]
    refine iteF ⟨_, rfl, _, rfl, fun i s' => ∃ x, s' = ⟨X, [.dat _, x], k⟩, ⟨_, rfl⟩, ?_, ?_⟩
    · rintro i d s' hd ⟨x, rfl⟩
      have hil : i < T.length := by have := (List.getElem?_eq_some_iff.mp hd).1; omega
      obtain ⟨q, hq, hq2⟩ := hr i hil
      rw [hd] at hq
      cases hq
      have hrl := ht.sq i hil
      rcases hq2 with rfl | rfl
      all_goals
        refine ⟨_, rfl, _, _, _, rfl, rfl, rfl, _, rfl, iteF ⟨_, rfl, _, rfl, rfl, rfl, _, rfl, ?_⟩⟩
        rw [eqvI, List.length_map, decide_eq_true (by omega)]
        exact iteF ⟨_, rfl⟩
    · rintro s' ⟨x, rfl⟩
      exact h
theorem r_check_tableU (X : List Addr) (ds : List D) (k : Nat) (R : D → Nat → Prop) (h : sp_check_tableU ds k R) : t_check_tableU (En R) (St0 false 4 ds X k) := by
  obtain ⟨T, dd, rfl, hm, ht, h⟩ := h
  have hi := ht.hi
  obtain ⟨rs, hs, hl⟩ : ∃ rs, dd.items = some rs ∧ rs.length = T.length := by
    obtain ⟨rs, hd, hl, _⟩ := hm
    rcases hd with rfl | rfl
    · exact ⟨rs, rfl, hl⟩
    · exact ⟨rs, rfl, hl⟩
  refine ⟨_, rfl, T, dd, rfl, hm, ht, ?_⟩
  refine ⟨rs, hs, 1, _, rfl, rfl, ⟨by omega, by omega, ?_, ?_⟩, ?_⟩
  · omega
  · omega
  have en : ((rs.length : Int) + 1 - 1).toNat = T.length := by omega
  rw [en]
  refine ⟨_, rfl, _, rfl, fun i s' => ∃ x y, s' = ⟨X, [.dat dd, .dat (.lst (rngD 1 T.length)), x, y], k⟩, ⟨_, _, rfl⟩, ?_, ?_⟩
  · rintro i d s' hd ⟨x, y, rfl⟩
    obtain ⟨hi, rfl⟩ := rngD_at hd
    refine ⟨_, rfl, _, rfl, fun j s' => ∃ y, s' = ⟨X, [.dat dd, .dat (.lst (rngD 1 T.length)), .dat (.int (1 + i)), y], k⟩, ⟨_, rfl⟩, ?_, ?_⟩
    · rintro j d s' hd ⟨y, rfl⟩
      obtain ⟨hj, rfl⟩ := rngD_at hd
      refine ⟨_, rfl, _, rfl, _, rfl, T, dd, _, _, rfl, hm, ht, by omega, by omega, by omega, by omega, _, rfl, iteF ⟨_, rfl⟩⟩
    · rintro s' ⟨y, rfl⟩
      exact ⟨_, _, rfl⟩
  · rintro s' ⟨x, y, rfl⟩
    exact h
theorem r_can_standU (X : List Addr) (ds : List D) (k : Nat) (R : D → Nat → Prop) (h : sp_can_standU ds k R) : t_can_standU (En R) (St0 false 4 ds X k) := by
  obtain ⟨T, dd, a, b, rfl, ⟨rs, hd, hl, hr⟩, ht, a1, a2, b1, b2, h⟩ := h
  obtain ⟨i, rfl⟩ : ∃ i : Nat, a = (i : Int) + 1 := ⟨(a - 1).toNat, by omega⟩
  obtain ⟨j, rfl⟩ : ∃ j : Nat, b = (j : Int) + 1 := ⟨(b - 1).toNat, by omega⟩
  have hi : i < T.length := by omega
  have hj : j < T.length := by omega
  have hs : dd.items = some rs := by rcases hd with rfl | rfl <;> rfl
  have row : ∀ i : Nat, i < T.length → ∀ z : Int, z = (i : Int) → ∃ q, atI rs z = some q ∧ q.items = some ((T.getD i []).map D.int) := fun i hi z e => by
    obtain ⟨q, h1, h2⟩ := hr i hi
    refine ⟨q, by rw [e]; exact atI_nat h1, ?_⟩
    rcases h2 with rfl | rfl <;> rfl
  have item : ∀ i j : Nat, i < T.length → j < T.length → ∀ z : Int, z = (j : Int) → atI ((T.getD i []).map D.int) z = some (.int (at2 T i j)) := fun i j hi hj z e => by rw [e]; exact atM 0 (by rw [ht.sq i hi]; exact hj)
  obtain ⟨q, q1, q2⟩ := row i hi ((i : Int) + 1 - 1) (by omega)
  refine ⟨rs, hs, _, rfl, _, _, rfl, q1, _, rfl, _, _, q2, item i j hi hj _ (by omega), ?_⟩
  refine ⟨_, rfl, _, rfl, rfl, _, rfl, iteF ?_⟩
  refine ⟨_, rfl, _, rfl, rfl, rfl, _, rfl, ?_⟩
  rw [eqvI]
  refine iteD (fun e => ?_) fun ne => ?_
  · have e : i = j := by omega
    subst e
    intro X
    refine ⟨_, rfl, rfl, rfl, ?_⟩
    rw [eqvI, ht.dg i hi]
    exact h
  · refine ⟨_, rfl, _, rfl, _, rfl, iteD (fun lt => ?_) fun ge => ?_⟩
    · intro X
      refine ⟨_, rfl, _, rfl, ?_⟩
      have e : (lookI kd_WEIGHTS (at2 T i j)).isSome = true := by
        rcases ht.of i j hi hj (by omega) with e | e | e | e | e <;> rw [e] <;> rfl
      rw [e]
      exact h
    · intro X
      obtain ⟨p, p1, p2⟩ := row j hj ((j : Int) + 1 - 1) (by omega)
      refine ⟨_, rfl, rs, hs, _, rfl, _, _, rfl, p1, _, rfl, _, _, p2, item j i hj hi _ (by omega), rfl, rfl, ?_⟩
      rw [eqvI, ht.sy i j hi hj, decide_eq_true rfl]
      exact h
end BW
set_option maxHeartbeats 1000000
set_option maxHeartbeats 1000000
namespace XQ
open PySem PySem.W
section
variable {prog : Program} {w : World} {A : Around} {E : Value → Shared → Prop} {K : Frag} {x C f : Addr} {ox : Obj} {od : Option Obj} {s : Shared}
theorem ne_own {b tb : Value} {Q : Value → Shared → Prop} (hu : A.units + 1 < cLine) (X : K.In s.heap) (I : InstAt s.heap x ox C od) (hb : Looks (model prog w) s.heap (typeOf b) tb) (hn : notFirst K C tb = true)
    (hm : mroIn K C (.type "object") = some true) (hs : findIn K (.ref C) "__eq__" = some (some (.ref f))) (hf : isFn K (.ref f) = true) (hne : findIn K (.ref C) "__ne__" = some (some (.builtin "object.__ne__")))
    (h : wpAny (model prog w) A.in1 (call (.ref f) [.ref x, b]) (fun v s' => ∃ r, v = .bool r ∧ Q (.bool (!r)) s') E s) : wpAny (model prog w) A (richCompare .NotEq (.ref x) b) Q E s := by
  have S : Slot "object" "__ne__" "object.__ne__" := Slot.of (T := "object") (name := "__ne__") (owner := "object") (n := "__ne__") (by rw [typeLookup_type, builtinLookup_eq_fast]; kernel_rfl) (by decide +kernel) (by decide +kernel) (by decide +kernel)
    (.inl (by decide +kernel)) (by rw [isSubtype_type]; kernel_rfl)
  have body : wpAny (model prog w) A.in1 (Builtin.«object.__ne__» ⟨[.ref x, b], []⟩) (GQ.FinOf prog w A (fun r s' => match r with | .ok (.ret v) => v ≠ .notImplemented ∧ Q v s' | .ok _ => False | .error e => E e s')) E s := by
    unfold Builtin.«object.__ne__»
    repeat (first
      | with_reducible refine wpAny_cRoomFor (show A.in1.units < cLine from hu) ?_
      | (refine wpAny_bind (m := callSpecialIfBound? (.ref x) (Str.ofString "__eq__") [b])
          (ifBound_K X I hs hf (wpAny_mono h (fun r s' hr => by
            obtain ⟨b, rfl, hq⟩ := hr
            repeat (first | exact ⟨(fun z => nomatch z), hq⟩ | exact wpAny_truthy_bool ⟨(fun z => nomatch z), hq⟩ | (refine wpAny_bind (m := truthy (.bool _)) (wpAny_truthy_bool ?_)) | wp_step)) fun _ _ e => e)))
      | wp_step)
  have one : wpAny (model prog w) A (tryCompare (.ref x) "__ne__" b) (fun r s' => ∃ v, r = some v ∧ Q v s') E s := by
    simp only [tryCompare]
    refine wpAny_bind ?_
    simp only [callSpecialIfBound?, bindSpecialIfBound?]
    have hcall : wpAny (model prog w) A (call (.builtin "object.__ne__") [.ref x, b]) (fun v s' => v ≠ .notImplemented ∧ Q v s') E s := wpAny_call (codeAny_call_builtin S.plain F.cmpEntry_ne
      (check_slot (i := "object.__ne__") (owner := "object") (n := "__ne__") F.cmpKind_ne F.cmpSplit_ne (I.type.andThen (looks_mroIn X hm)) (F.cmpArgs_ne _ _) body))
    refine wpAny_holding (wpAny_bind (wpAny_bind (wpAny_bind (I.type.here ((looks_findIn X hne).here ?_)))))
    simp only [S.bind]
    refine wpAny_bind (wpAny_askSetting (wpAny_ite ?_))
    have fin : wpAny (model prog w) A (call (.builtin "object.__ne__") ([.ref x] ++ [b]) >>= fun v => pure (some v)) (fun r s' => wpAny (model prog w) A (match r with | some .notImplemented | none => pure none | some v => pure (some v)) (fun r s' => ∃ v, r = some v ∧ Q v s') E s') E s :=
      wpAny_bind (wpAny_mono hcall (fun v s' h' => wpAny_pure (by
        obtain ⟨h1, h2⟩ := h'
        cases v <;> first | exact absurd rfl h1 | exact wpAny_pure ⟨_, rfl, h2⟩)) fun _ _ h' => h')
    split
    · exact wpAny_bind (wpAny_pure (wpAny_pure fin))
    · exact wpAny_tryCatch (wpAny_bind (wpAny_pure (wpAny_pure fin)))
  unfold richCompare
  simp only [oneThing_ref]
  refine wpAny_holding (wpAny_bind (wpAny_cRoomFor (Nat.lt_of_succ_lt hu) ?_))
  rw [cmpInfo_NotEq]
  dsimp only
  refine wpAny_bind (I.type.here (wpAny_bind (hb.here ?_)))
  split
  · rename_i q
    have e : subIn K tb (.ref C) = some false := by
      rcases Bool.or_eq_true_iff.mp hn with e | e
      · rw [beq_iff_eq.mp e] at q; simp at q
      · exact beq_iff_eq.mp e
    refine wpAny_bind ((looks_subIn X e).here ?_)
    simp only [Bool.false_eq_true, if_false]
    refine wpAny_bind (wpAny_mono one (fun r s' z => ?_) fun _ _ e => e)
    obtain ⟨v, rfl, hq⟩ := z
    exact wpAny_pure hq
  · refine wpAny_bind (wpAny_pure ?_)
    simp only [Bool.false_eq_true, if_false]
    refine wpAny_bind (wpAny_mono one (fun r s' z => ?_) fun _ _ e => e)
    obtain ⟨v, rfl, hq⟩ := z
    exact wpAny_pure hq
end
end XQ
set_option maxHeartbeats 1000000
namespace DL
open PySem PySem.Spec PyProof.Rows L2
open PySem.W (Frag)
structure OwnK (K : Frag) (C f : Addr) : Prop where
  cl : Cls K C
  ca : PySem.W.findIn K (.ref C) "__class__" = some (some (.builtin "object.__class__"))
  cg : PySem.W.specialIn K (.builtin "object.__class__") "__get__" = some (some (.builtin "getset_descriptor.__get__"))
  tk : PySem.W.takesIn K (.builtin "object.__class__") = some true
  ob : PySem.W.mroIn K C (.type "object") = some true
  eq : PySem.W.findIn K (.ref C) "__eq__" = some (some (.ref f))
  fn : PySem.W.isFn K (.ref f) = true
  ne : PySem.W.findIn K (.ref C) "__ne__" = some (some (.builtin "object.__ne__"))
  kt : PySem.W.kitOne K (.ref C) (.ref C) = some true
  kf : ∀ T ∈ typN, PySem.W.kitOne K (.type T) (.ref C) = some false
  sf : ∀ T ∈ typR, PySem.W.subIn K (.ref C) (.type T) = some false
  nf : ∀ T ∈ typN, PySem.W.notFirst K C (.type T) = true
theorem ownB_ok {K : Frag} {C f : Addr} (cl : Cls K C) (h : ownB K C f = true) : OwnK K C f := by
  obtain ⟨h1, h⟩ := Bool.and_eq_true_iff.mp h
  obtain ⟨h2, h⟩ := Bool.and_eq_true_iff.mp h
  obtain ⟨h3, h⟩ := Bool.and_eq_true_iff.mp h
  obtain ⟨h4, h⟩ := Bool.and_eq_true_iff.mp h
  obtain ⟨h5, h⟩ := Bool.and_eq_true_iff.mp h
  obtain ⟨h6, h⟩ := Bool.and_eq_true_iff.mp h
  obtain ⟨h7, h⟩ := Bool.and_eq_true_iff.mp h
  obtain ⟨h8, h⟩ := Bool.and_eq_true_iff.mp h
  obtain ⟨h9, h⟩ := Bool.and_eq_true_iff.mp h
  obtain ⟨h10, h11⟩ := Bool.and_eq_true_iff.mp h
  exact ⟨cl, of_decide_eq_true h1, of_decide_eq_true h2, of_decide_eq_true h3, of_decide_eq_true h4, of_decide_eq_true h5, h6, of_decide_eq_true h7, of_decide_eq_true h8,
    fun T m => of_decide_eq_true (List.all_eq_true.mp h9 T m), fun T m => of_decide_eq_true (List.all_eq_true.mp h10 T m), fun T m => List.all_eq_true.mp h11 T m⟩
section
variable {X : Cx} {k : Nat} {f C : Addr} {fd : FuncData} {ps : List PySem.Str} {sp : Sp}
theorem run_below {A : Around} {pins : List (Addr × Obj)} {σ : L2.St} {H : Hp} {s : Shared} {Q : VK} {us : List Value} {vs : List V} (F : FnOk X.prog X.w X.K X.mg X.base CX0 k f fd ps sp) (hr : Room k A) (fr : A.frames = X.A.frames) (hb : Binds X.K fd ps [])
    (I : Inv X pins σ H s) (r : Vals vs us) (h : sp vs H Q E0) {xe : Value → Shared → Prop} : wpAny (model X.prog X.w) A (call (.ref f) us) (EP X pins σ Q) xe s := by
  have e0 : Env0 X.prog X.w X.K X.mg X.base A X.stack s H := by
    have e := I.env0
    exact ⟨by rw [fr]; exact e.frames, e.mod, e.bs, e.bsz, e.funs, e.frf, e.hok, e.bare⟩
  have hl := F.len _ _ _ _ h
  refine wpAny_call (codeAny_mono (F.run A X.stack s H ⟨us, []⟩ us vs Q E0 hr e0 (by
    have := hb s us I.kIn (by rw [List.append_nil, ← r.length]; exact hl)
    simpa using this) r h) fun r s' hq => ?_)
  cases r with
  | error e => exact (show False from hq).elim
  | ok fl =>
    cases fl with
    | ret w =>
      obtain ⟨z, H', I', rz, q⟩ := I.after hq
      exact ⟨z, H', I', rz, q⟩
    | next => exact False.elim hq
    | brk => exact False.elim hq
    | cont => exact False.elim hq
def rNeI (K : Frag) (C : Addr) (sp : Sp) : R2 := fun x y H Q => ∃ a dx fs t, x = .ref a ∧ H a = some (.ins C dx fs) ∧ TyX K H y t ∧ PySem.W.notFirst K C t = true ∧ sp [x, y] H (fun v H' => ∃ b, v = .bl b ∧ Q (.bl (!b)) H') E0
theorem op_neI (O : OwnK X.K C f) (F : FnOk X.prog X.w X.K X.mg X.base CX0 k f fd ps sp) (hb : Binds X.K fd ps []) (hr : Room (k + 1) X.A) : OpR X (compareOp .NotEq) (rNeI X.K C sp) := by
  intro pins s σ H x y v u Q I rx ry ⟨a, dx, fs, t, hx, ha, ty, hn, q⟩
  subst hx
  cases (show v = Value.ref a from rx)
  obtain ⟨mA, J, _⟩ := ins_get I.hok ha
  obtain ⟨od, J, _⟩ := J.look
  obtain ⟨P, Z, p, _⟩ := kit_of I ry ty
  show wpAny (model X.prog X.w) X.A (richCompare .NotEq (.ref a) u) _ X.xe s
  refine XQ.ne_own (hr.in1).units0 I.kIn J (Z.ty _ _ I.kIn p) hn O.ob O.eq O.fn O.ne (wpAny_mono (run_below (us := [.ref a, u]) (vs := [.ref a, y]) F hr.in1 rfl hb I (.cons rfl (.cons ry .nil)) q) (fun w s' z => ?_) fun _ _ e => e)
  obtain ⟨z, H', I', rz, b, hz, q'⟩ := z
  subst hz
  cases (show w = Value.bool b from rz)
  exact ⟨b, rfl, .bl (!b), H', I', rfl, q'⟩
end
end DL
set_option maxHeartbeats 1000000
namespace DL
open PySem PySem.Spec PyProof.Rows L2
open PySem.W (Frag)
structure EqD (P : Program) (w : World) (K : Frag) (mg : PySem.Str → Option Value) (base : Heap) (k : Nat) (C : Addr) (sp : DSp) : Prop where
  ex : ∃ f fd ps, OwnK K C f ∧ FnOk P w K mg base CX0 k f fd ps (spD K false sp) ∧ Binds K fd ps []
def oNeI (C : Addr) (sp : DSp) : O2 := fun x y Q => (∃ ns xs, x = .ins C ns xs) ∧ ((∃ n ∈ typN, y.tname = some n) ∨ ∃ ns xs, y = .ins C ns xs) ∧ sp [x, y] 0 fun d _ => ∃ b, d = .bl b ∧ Q (.bl (!b))
section
variable {K : Frag} {c : C} {C f : Addr} {sp : DSp}
theorem OwnK.ty (O : OwnK K C f) {H : Hp} {v : V} {d : D} (r : Rl K H v d) (h : (∃ n ∈ typN, d.tname = some n) ∨ ∃ ns xs, d = .ins C ns xs) : ∃ t, TyX K H v t ∧ PySem.W.notFirst K C t = true := by
  rcases h with ⟨n, hn, e⟩ | ⟨ns, xs, rfl⟩
  · exact ⟨_, r.ty e, O.nf n hn⟩
  · obtain ⟨a, dx, us, rfl, h2, l, r⟩ := r.insE
    exact ⟨_, .base (.ins h2 O.cl O.ca O.cg O.tk O.ob), by simp [PySem.W.notFirst]⟩
theorem fit_call (hK : c.K = K) {s : S} {σ : L2.St} {H : Hp} {x y : V} {a b : D} {R : D → Prop} {Q : VK} {g : Bool → Bool} (rp : Rep c s σ H) (hx : Rl c.K (c.hid s.X H) x a) (hy : Rl c.K (c.hid s.X H) y b) (h : sp [a, b] 0 fun d _ => ∃ b, d = .bl b ∧ R (.bl (g b))) (w : Wi c s σ H R Q) :
    spD K false sp [x, y] H (fun v H' => ∃ b, v = .bl b ∧ Q (.bl (g b)) H') E0 := by
  refine ⟨none, Ml c.M ++ s.X, 0, [a, b], [x, y], _, ⟨rfl, rfl⟩, ⟨fun a _ => by simp [Ml], rp.allHid, trivial, hK ▸ RlA.cons hx (RlA.cons hy .nil), rp.allTb⟩, h, fun d k' hR v H' af er => ?_⟩
  obtain ⟨b, rfl, hR⟩ := hR
  have z := Rep.after (s := s) rp ⟨af.sub, af.old, af.m, af.tb⟩
  cases er with
  | bl _ => exact ⟨b, rfl, w _ hR _ H' z.1 z.2 (.bl _)⟩
theorem fit_neI (O : OwnK K C f) (hK : c.K = K) : Fit2 c (rNeI K C (spD K false sp)) (oNeI C sp) := fun s σ H x y a b R Q rp hx hy ⟨⟨ns, xs, e⟩, ht, h⟩ w => by
  have fc := fit_call (g := fun b => !b) hK rp hx hy h w
  subst e
  obtain ⟨t, ty, nf⟩ := O.ty (hK ▸ hy.all : Rl K H y b) ht
  obtain ⟨p, dx, us, rfl, h2, l, r⟩ := hx.insE
  exact ⟨p, dx, _, t, rfl, wo_sub _ _ _ _ h2, ty, nf, fc⟩
end
section
variable {X : Cx} {c : C} {k j : Nat} {C : Addr} {sp : DSp} {pos p : Pos}
abbrev dIsiO (C : Addr) (t : DE) : DE := fun s Q => t s fun d k => (∃ n ∈ typN, d.tname = some n ∧ Q (.bl false) k) ∨ ∃ ns xs, d = .ins C ns xs ∧ Q (.bl true) k
theorem pd_isiO {f : Addr} (O : OwnK X.K C f) (hK : c.K = X.K) (hm : X.mg "isinstance" = none) {D : PySem.Str} (hD : X.mg D = some (.ref C)) {e : Expr} {t : DE} {pt : Pos} (h : PE X e (LE c t)) (hg : Gl X "isinstance" := by rfl) (hgT : Gl X D := by rfl) (hdT : (D == ("__debug__" : PySem.Str)) = false := by decide)
    (hs : starEach [e, Expr.Name D pt] X.env = (false, eval e X.env) :: starEach [Expr.Name D pt] X.env := by rfl) (hs2 : starEach [Expr.Name D pt] X.env = (false, eval (Expr.Name D pt) X.env) :: starEach [] X.env := by rfl) (hp : (backTo pos (starEach [Expr.Name D pt] X.env)).any (·.1) = false := by rfl) :
    PE X (.Call (.Name "isinstance" p) [e, .Name D pt] [] pos) (LE c (dIsiO C t)) :=
  (pe_callB call_isi hg hm PyProof.Rows.boot_isinstance (pa_cons h (pa_cons (pe_glob (v := .ref C) hgT hD rfl hdT) pa_nil hs2) hs) (he := hs) (hpl := hp)).weak fun σ H Q ⟨s, R, rp, q, f⟩ => ⟨s, _, rp, q, fun d k h v H1 r1 a1 e1 => by
    rcases h with ⟨n, hn, e, h3⟩ | ⟨ns, xs, rfl, h3⟩
    · exact ⟨v, _, _, _, false, rfl, .own C, hK ▸ Rl.ty e1.all e, O.kf n hn, f _ k h3 _ H1 r1 a1 (.bl _)⟩
    · obtain ⟨a, dx, us, rfl, h2, l, r⟩ := e1.insE
      exact ⟨.ref a, _, _, _, true, rfl, .own C, .base (.ins (wo_sub _ _ _ _ h2) O.cl O.ca O.cg O.tk O.ob), O.kt, f _ k h3 _ H1 r1 a1 (.bl _)⟩⟩
end
end DL
set_option maxHeartbeats 1000000
namespace BW
open PySem L2 DL
theorem pyMap (f : List Int → D) : ∀ T : Mat, pyA (T.map f) = T.map fun r => (f r).py
  | [] => rfl
  | r :: T => by
    show (f r).py :: pyA (T.map f) = _
    rw [pyMap f T]
    rfl
theorem eqv_rows (f : List Int → D) (hf : ∀ r q, PyData.eqv (f r).py (f q).py = decide (r = q)) : ∀ T U : Mat, PyData.eqvAll (T.map fun r => (f r).py) (U.map fun r => (f r).py) = decide (T = U)
  | [], [] => rfl
  | [], _ :: _ => rfl
  | _ :: _, [] => rfl
  | r :: T, q :: U => by
    show (PyData.eqv (f r).py (f q).py && PyData.eqvAll (T.map fun r => (f r).py) (U.map fun r => (f r).py)) = _
    rw [eqv_rows f hf T U, hf]
    by_cases h1 : r = q
    · subst h1
      by_cases h2 : T = U
      · simp [h2]
      · simp [h2]
    · simp [h1]
theorem eqv_tM (T U : Mat) : PyData.eqv (tM T).py (tM U).py = decide (T = U) := by
  show PyData.eqvAll (pyA (T.map tI)) (pyA (U.map tI)) = _
  rw [pyMap, pyMap]
  exact eqv_rows tI eqv_tupI T U
theorem okE_rows {f : List Int → D} (h1 : ∀ r, (f r).plain = true) (h2 : ∀ r, PyData.canLay0 (f r).py = true) (h3 : ∀ r, PyData.depth (f r).py = 1) : ∀ T : Mat, plainA (T.map f) = true ∧ PyData.canLayAll0 (pyA (T.map f)) = true ∧ PyData.depthAll (pyA (T.map f)) ≤ 1
  | [] => ⟨rfl, rfl, by show 0 ≤ 1; decide⟩
  | r :: T => by
    obtain ⟨a, b, c⟩ := okE_rows h1 h2 h3 T
    refine ⟨?_, ?_, ?_⟩
    · show ((f r).plain && plainA (T.map f)) = true
      rw [h1, a]; rfl
    · show (PyData.canLay0 (f r).py && PyData.canLayAll0 (pyA (T.map f))) = true
      rw [h2, b]; rfl
    · show max (PyData.depth (f r).py) (PyData.depthAll (pyA (T.map f))) ≤ 1
      rw [h3]; omega
theorem okE_mat {f : List Int → D} (h1 : ∀ r, (f r).plain = true) (h2 : ∀ r, PyData.canLay0 (f r).py = true) (h3 : ∀ r, PyData.depth (f r).py = 1) (T : Mat) : (D.lst (T.map f)).okE = true ∧ (D.tup (T.map f)).okE = true := by
  obtain ⟨a, b, c⟩ := okE_rows h1 h2 h3 T
  have q : (plainA (T.map f) && (PyData.canLayAll0 (pyA (T.map f)) && decide (PyData.depthAll (pyA (T.map f)) + 1 ≤ 64))) = true := by
    rw [a, b, decide_eq_true (by omega)]; rfl
  exact ⟨q, q⟩
theorem okE_tM (T : Mat) : (tM T).okE = true := (okE_mat (f := tI) (fun r => plain_ints r) (fun r => by show PyData.canLayAll0 (pyA (r.map D.int)) = true; rw [py_ints, lay_ints]) (fun r => by show PyData.depthAll (pyA (r.map D.int)) + 1 = 1; rw [py_ints, depth_ints]) T).2
def sp_eq (BC : Addr) : DSp := fun ds k R => ∃ T d, ds = [bnd BC T, d] ∧ ((∃ U, d = bnd BC U ∧ R (.bl (decide (T = U))) k) ∨ (∃ n ∈ typN, d.tname = some n ∧ R (.bl false) k))
abbrev t_eq (BC : Addr) : DS := (dRet (dAndV (dIsiO BC (dVar 1)) (dOp oEq (dFld BC "table" (dVar 0)) (dFld BC "table" (dVar 1)))))
theorem r_eq (BC : Addr) (X : List Addr) (ds : List D) (k : Nat) (R : D → Nat → Prop) (h : sp_eq BC ds k R) : t_eq BC (En R) (St0 false 2 ds X k) := by
  obtain ⟨T, d, rfl, h⟩ := h
  intro X
  rcases h with ⟨U, rfl, h⟩ | ⟨n, hn, e, h⟩
  · refine ⟨_, rfl, .inr ⟨_, _, rfl, _, rfl, iteT ⟨_, rfl, _, _, tM T, rfl, rfl, _, rfl, _, _, tM U, rfl, rfl, okE_tM T, okE_tM U, ?_⟩⟩⟩
    rw [eqv_tM]
    exact h
  · exact ⟨_, rfl, .inl ⟨n, hn, e, _, rfl, iteF h⟩⟩
end BW
set_option maxHeartbeats 1000000
namespace DL
open PySem PySem.Spec PyProof.Rows L2
open PySem.W (Frag)
structure Bld (K : Frag) (X0 : List Addr) (x C dx : Addr) (H0 H : Hp) (ws : List V) (as : List D) (ns : List PySem.Str) (vs : List V) (ds : List D) : Prop where
  at_ : H x = some (.ins C dx (ns.zip vs))
  len : ns.length = vs.length
  ra : RlA K (wo H (x :: X0)) ws as
  rf : RlA K (wo H (x :: X0)) vs ds
  old : ∀ a ∈ X0, H a = H0 a
  sub : Sub (wo H0 (x :: X0)) (wo H (x :: X0))
  tb : TbK H0 H
theorem wo_updh {H : Hp} {x : Addr} {X0 : List Addr} {o : HO} : wo (upd H x o) (x :: X0) = wo H (x :: X0) := by
  funext a
  unfold wo
  by_cases h : a = x
  · subst h
    rw [if_pos List.mem_cons_self, if_pos List.mem_cons_self]
  · rw [upd_ne h]
section
variable {K : Frag} {X0 : List Addr} {x C dx : Addr} {H0 H : Hp} {ws : List V} {as : List D} {ns : List PySem.Str} {vs : List V} {ds : List D}
theorem Bld.step (B : Bld K X0 x C dx H0 H ws as ns vs ds) (hx : x ∉ X0) {H' : Hp} {v : V} {d : D} (own : ∀ a ∈ x :: X0, H' a = H a) (sub : Sub (wo H (x :: X0)) (wo H' (x :: X0))) (tb : TbK H H') (r : Rl K (wo H' (x :: X0)) v d) (f : PySem.Str) :
    H' x = some (.ins C dx (ns.zip vs)) ∧ Bld K X0 x C dx H0 (upd H' x (.ins C dx ((ns ++ [f]).zip (vs ++ [v])))) ws as (ns ++ [f]) (vs ++ [v]) (ds ++ [d]) := by
  have e : H' x = some (.ins C dx (ns.zip vs)) := by rw [own x List.mem_cons_self]; exact B.at_
  refine ⟨e, upd_same, by rw [List.length_append, List.length_append, B.len]; rfl, ?_, ?_, fun a h => ?_, ?_, ?_⟩
  · rw [wo_updh]; exact B.ra.mono sub
  · rw [wo_updh]; exact (B.rf.mono sub).app (.cons r .nil)
  · rw [upd_ne (fun z => hx (by rw [← z]; exact h)), own a (List.mem_cons_of_mem _ h)]; exact B.old a h
  · rw [wo_updh]; exact B.sub.trans sub
  · exact B.tb.trans (tb.trans (TbK.at_ e))
end
end DL
set_option maxHeartbeats 1000000
set_option maxHeartbeats 1000000
namespace BW
open PySem L2 DL
inductive Val : Nat → D → Prop
  | non {n : Nat} : Val n .non
  | bl {n : Nat} (b : Bool) : Val n (.bl b)
  | int {n : Nat} (i : Int) : Val n (.int i)
  | str {n : Nat} {x : PySem.Str} : PyData.strOk x = true → Val n (.str x)
  | tup {n : Nat} {xs : List D} : xs.length ≤ 300000 → (n ≤ 1 → xs.length ≤ 900) → (∀ x ∈ xs, Val n x) → Val (n + 1) (.tup xs)
  | lst {n : Nat} {xs : List D} : xs.length ≤ 300000 → (n ≤ 1 → xs.length ≤ 900) → (∀ x ∈ xs, Val n x) → Val (n + 1) (.lst xs)
theorem Val.up {n : Nat} {d : D} (h : Val n d) : ∀ {m : Nat}, n ≤ m → Val m d := by
  induction h with
  | non => exact fun _ => .non
  | bl b => exact fun _ => .bl b
  | int i => exact fun _ => .int i
  | str h => exact fun _ => .str h
  | @tup n xs h1 h2 h3 ih =>
    intro m hm
    obtain ⟨m, rfl⟩ : ∃ k, m = k + 1 := ⟨m - 1, by omega⟩
    exact .tup h1 (fun z => h2 (by omega)) fun x hx => ih x hx (by omega)
  | @lst n xs h1 h2 h3 ih =>
    intro m hm
    obtain ⟨m, rfl⟩ : ∃ k, m = k + 1 := ⟨m - 1, by omega⟩
    exact .lst h1 (fun z => h2 (by omega)) fun x hx => ih x hx (by omega)
theorem Val.ty {n : Nat} {d : D} (h : Val n d) : d.tname.isSome = true := by cases h <;> rfl
theorem lays17 {n : Nat} : ∀ {xs : List D}, (∀ x ∈ xs, x.plain = true ∧ PyData.canLay0 x.py = true ∧ PyData.depth x.py ≤ n) → plainA xs = true ∧ PyData.canLayAll0 (pyA xs) = true ∧ PyData.depthAll (pyA xs) ≤ n
  | [], _ => ⟨rfl, rfl, Nat.zero_le _⟩
  | x :: r, h => by
    obtain ⟨a, b, c⟩ := lays17 (xs := r) fun z hz => h z (List.mem_cons_of_mem _ hz)
    obtain ⟨a', b', c'⟩ := h x List.mem_cons_self
    refine ⟨?_, ?_, ?_⟩
    · show (x.plain && plainA r) = true
      rw [a', a]; rfl
    · show (PyData.canLay0 x.py && PyData.canLayAll0 (pyA r)) = true
      rw [b', b]; rfl
    · show max (PyData.depth x.py) (PyData.depthAll (pyA r)) ≤ n
      omega
theorem Val.lay {n : Nat} {d : D} (h : Val n d) : d.plain = true ∧ PyData.canLay0 d.py = true ∧ PyData.depth d.py ≤ n := by
  induction h with
  | non => exact ⟨rfl, rfl, Nat.zero_le _⟩
  | bl b => exact ⟨rfl, rfl, Nat.zero_le _⟩
  | int i => exact ⟨rfl, rfl, Nat.zero_le _⟩
  | str h => exact ⟨rfl, h, Nat.zero_le _⟩
  | @tup n xs h1 h2 h3 ih =>
    obtain ⟨a, b, c⟩ := lays17 ih
    exact ⟨a, b, by show PyData.depthAll (pyA xs) + 1 ≤ n + 1; omega⟩
  | @lst n xs h1 h2 h3 ih =>
    obtain ⟨a, b, c⟩ := lays17 ih
    exact ⟨a, b, by show PyData.depthAll (pyA xs) + 1 ≤ n + 1; omega⟩
theorem Val.okE {n : Nat} {d : D} (h : Val n d) (hn : n ≤ 40) : d.okE = true := by
  obtain ⟨a, b, c⟩ := h.lay
  show (d.plain && (PyData.canLay0 d.py && decide (PyData.depth d.py ≤ 64))) = true
  rw [a, b, decide_eq_true (by omega)]; rfl
end BW
set_option maxHeartbeats 1000000
set_option maxHeartbeats 1000000
namespace BW
open PySem L2 DL
theorem l10k {n : Nat} (h : n ≤ 10000) : n ≤ lim := Nat.le_trans h (by decide)
end BW
namespace BW
open PySem L2 DL
abbrev AL (v : Int) : Prop := v = 2 ∨ v = 3 ∨ v = 4 ∨ v = 6 ∨ v = 0
structure Gq (f : Nat → Nat → Int) (a b : Nat) : Prop where
  dg : ∀ i, f i i = 1
  sy : ∀ i j, f i j = f j i
  of : ∀ i j, j < i → (i < a ∨ (i = a ∧ j < b)) → AL (f i j)
theorem Gq.next {f : Nat → Nat → Int} {a : Nat} (g : Gq f a a) : Gq f (a + 1) 0 := ⟨g.dg, g.sy, fun i j h z => g.of i j h (by omega)⟩
theorem Gq.sw {f : Nat → Nat → Int} {a b : Nat} (g : Gq f a b) (hb : b < a) {v : Int} (hv : AL v) : Gq (fsw f a b v) a (b + 1) := by
  refine ⟨fun i => ?_, fun i j => ?_, fun i j h z => ?_⟩
  · unfold fsw
    rw [if_neg (by omega)]
    exact g.dg i
  · unfold fsw
    by_cases h : (i = a ∧ j = b) ∨ (i = b ∧ j = a)
    · rw [if_pos h, if_pos (by omega)]
    · rw [if_neg h, if_neg (by omega)]
      exact g.sy i j
  · unfold fsw
    by_cases c : (i = a ∧ j = b) ∨ (i = b ∧ j = a)
    · rw [if_pos c]; exact hv
    · rw [if_neg c]
      exact g.of i j h (by omega)
structure S9 (m : Mc) (n : Nat) (u2 : V) (p : Addr) (σ : L2.St) : Prop where
  len : σ.length = 8
  e0 : σ[0]? = some (some (.ref m.pm))
  e1 : σ[1]? = some (some (.int n))
  e2 : σ[2]? = some (some u2)
  e3 : σ[3]? = some (some (.ref p))
theorem S9.set {m : Mc} {n : Nat} {u2 : V} {p : Addr} {σ : L2.St} (h : S9 m n u2 p σ) {i : Nat} (hi : 4 ≤ i) (v : Option V) : S9 m n u2 p (σ.set i v) :=
  ⟨by rw [List.length_set]; exact h.len, by rw [List.getElem?_set_ne (by omega)]; exact h.e0, by rw [List.getElem?_set_ne (by omega)]; exact h.e1, by rw [List.getElem?_set_ne (by omega)]; exact h.e2, by rw [List.getElem?_set_ne (by omega)]; exact h.e3⟩
end BW
set_option maxHeartbeats 1000000
set_option maxHeartbeats 1000000
set_option maxHeartbeats 1000000
namespace BW
open PySem L2 DL
inductive Dm : Nat → D → Prop
  | non {n : Nat} : Dm n .non
  | bl {n : Nat} (b : Bool) : Dm n (.bl b)
  | int {n : Nat} (i : Int) : Dm n (.int i)
  | str {n : Nat} {x : PySem.Str} : PyData.strOk x = true → Dm n (.str x)
  | tup {n : Nat} {xs : List D} : xs.length ≤ 210000 → (n = 0 → xs.length ≤ 800) → (∀ x ∈ xs, Dm n x) → Dm (n + 1) (.tup xs)
theorem Dm.val {n : Nat} {d : D} (h : Dm n d) : Val (n + 1) d := by
  induction h with
  | non => exact .non
  | bl b => exact .bl b
  | int i => exact .int i
  | str h => exact .str h
  | @tup n xs h1 h2 h3 ih => exact .tup (by omega) (fun z => Nat.le_trans (h2 (by omega)) (by decide)) ih
theorem Dm.up {n : Nat} {d : D} (h : Dm n d) : ∀ {m : Nat}, n ≤ m → Dm m d := by
  induction h with
  | non => exact fun _ => .non
  | bl b => exact fun _ => .bl b
  | int i => exact fun _ => .int i
  | str h => exact fun _ => .str h
  | @tup n xs h1 h2 h3 ih =>
    intro m hm
    obtain ⟨m, rfl⟩ : ∃ k, m = k + 1 := ⟨m - 1, by omega⟩
    exact .tup h1 (fun z => h2 (by omega)) fun x hx => ih x hx (by omega)
section
variable {xs : List D} {n : Nat} {b : D} {d : Int}
theorem cut_le (xs : List D) (a b : Option Int) : (cutD xs a b).length ≤ xs.length := by
  unfold cutD
  rw [List.length_take, List.length_drop]
  omega
end
end BW
set_option maxHeartbeats 1000000
set_option maxHeartbeats 1000000
namespace BW
open PySem L2 DL TL
def Dg (r : List Int) : Prop := ∀ i ∈ r, 0 ≤ i ∧ i < 10
def DgT (T : Mat) : Prop := T ≠ [] ∧ T.length ≤ 6 ∧ ∀ r ∈ T, Dg r ∧ r.length = T.length
end BW
namespace DL
open PySem L2 L2G
open PySem.W (Frag)
end DL
set_option maxHeartbeats 1000000
set_option autoImplicit false
namespace LamD
open PySem PySem.Spec PyProof.Rows L2 LamX
end LamD
set_option maxHeartbeats 1000000
set_option autoImplicit false
namespace LamD
open PySem PySem.Spec PyProof.Rows L2 LamX
end LamD
set_option maxHeartbeats 1000000
set_option autoImplicit false
namespace LamD
open PySem PySem.Spec PyProof.Rows L2 LamX
end LamD
set_option maxHeartbeats 1000000
set_option autoImplicit false
namespace LamD
open PySem PySem.Spec PyProof.Rows L2 LamX
end LamD
set_option maxHeartbeats 1000000
set_option autoImplicit false
namespace LamD
open PySem PySem.Spec PyProof.Rows L2 LamX
end LamD
set_option maxHeartbeats 1000000
namespace LamD
open PySem
end LamD
namespace DL
open PySem PySem.Spec PyProof.Rows L2 LamX LamD
end DL
set_option maxHeartbeats 1000000
namespace DL
open PySem PySem.Spec PyProof.Rows L2 LamX
end DL
set_option maxHeartbeats 1000000
namespace DL
open PySem PySem.Spec PyProof.Rows L2 LamX LamD
open PySem.W (Frag)
end DL
namespace DL
open PySem L2
open PySem.W (Frag)
end DL
set_option maxHeartbeats 2000000
namespace PySem
namespace HandSPX
open Builtin Builtin.ObjectAttr
end HandSPX
end PySem
set_option maxHeartbeats 2000000
namespace DL
open PySem PySem.Spec PyProof.Rows L2
open PySem.W (Frag)
end DL
set_option maxHeartbeats 2000000
namespace DL
open PySem PySem.Spec PyProof.Rows L2
open PySem.W (Frag)
end DL
set_option maxHeartbeats 2000000
namespace DL
open PySem PySem.Spec PyProof.Rows L2
open PySem.W (Frag)
end DL
set_option maxHeartbeats 2000000
namespace DL
open PySem PySem.Spec PyProof.Rows L2
end DL
set_option maxHeartbeats 1000000
namespace BW
open PySem L2 DL
abbrev badChoice (d : D) : D := .exc "BadChoice" ["value"] [d]
def WdO (T : Mat) (d : D) (k : Nat) (E : D → Nat → Prop) (G : List Int → Prop) : Prop := (∃ x, BadW T.length d x ∧ E x k) ∨ ∃ w, isW d w ∧ w.length ≤ 60 ∧ Wd T.length w ∧ G w
theorem WdO.imp {T : Mat} {d : D} {k : Nat} {E : D → Nat → Prop} {G G' : List Int → Prop} (h : WdO T d k E G) (f : ∀ w, Wd T.length w → w.length ≤ 60 → G w → G' w) : WdO T d k E G' := Or.imp id (fun ⟨w, a, b, c, g⟩ => ⟨w, a, b, c, f w c b g⟩) h
end BW
set_option maxHeartbeats 1000000
namespace DL
open PySem PySem.Spec PyProof.Rows L2 LamX
open PySem.W (Frag dataLe AllAlike Sortable EachIs KeyPure)
end DL
set_option maxHeartbeats 1000000
namespace DL
open PySem PySem.Spec PyProof.Rows L2 LamX
open PySem.W (Frag dataLe AllAlike Sortable EachIs KeyPure)
end DL
set_option maxHeartbeats 1000000
namespace DL
open PySem L2
open PySem.W (Frag)
end DL
set_option maxHeartbeats 1000000
set_option maxHeartbeats 1000000
namespace BW
open PySem L2 DL
section
variable {BC : Addr} {DD : DEnds} {T : Mat} {w v u : List Int} {X : List Addr} {k : Nat} {x2 x3 x4 x5 x6 x7 x8 x9 x10 x11 x12 : Sl}
abbrev T17 : Mat := [[1, 3], [3, 1]]
end
end BW
set_option maxHeartbeats 1000000
namespace BW
open PySem L2 DL
open PySem.W (dataLe AllAlike Sortable)
theorem get_mem {xs : List D} {z : Int} {m : Nat} (z0 : 0 ≤ z) (z1 : z < m) (hl : xs.length = m) : ∃ d, atI xs z = some d ∧ d ∈ xs := by
  obtain ⟨i, rfl⟩ : ∃ i : Nat, z = (i : Int) := ⟨z.toNat, by omega⟩
  have hi : i < xs.length := by omega
  refine ⟨xs[i], ?_, List.getElem_mem hi⟩
  exact atI_nat (List.getElem?_eq_getElem hi)
end BW
set_option maxHeartbeats 1000000
namespace BW
open PySem L2 DL
open PySem.W (dataLe AllAlike Sortable)
def DueW (x u : D) : Prop := (x = tooGreat 60 ∧ u = .tup [.str "great", .int 60]) ∨ ∃ e, x = badWord e ∧ (e = .non ∨ ∃ i : Int, e = .int i) ∧ u = .tup [.str "word", e]
def HB (x u : D) : Prop := DueW x u ∨ ∃ c, x = badChoice c ∧ u = .tup [.str "choice", c]
end BW
set_option maxHeartbeats 1000000
namespace BW
open PySem L2 DL TL
abbrev c1 (c : Nat) : D := .str ⟨#[c]⟩
end BW
set_option maxHeartbeats 1000000
namespace BW
open PySem L2 DL TL
def tf (n at_ c : Nat) : Bool := if at_ % (2 * n) = 2 * n - 1 then decide (c = 10) else if at_ % (2 * n) % 2 = 1 then decide (c = 32) else decide (c ∈ [48, 49, 50, 51, 52, 54])
end BW
set_option maxHeartbeats 1000000
set_option maxHeartbeats 1000000
namespace BW
open PySem L2 DL TL
abbrev dig6 : List Nat := [48, 49, 50, 51, 52, 54]
def fitN (w : Nat) (L : List Nat) (j : Nat) : Prop := ∃ c, L[j]? = some c ∧ tf w j c = true
def whN (w : Nat) : Nat := 2 * w * w - 1
def tbad (w : Nat) (L : List Nat) (i : Nat) : Prop := (∃ c, L[i]? = some c ∧ (whN w ≤ i ∨ tf w i c = false)) ∨ (i = L.length ∧ i < whN w)
def FL (L : List Nat) (l : Nat) : Prop := (∀ j, j < l → ∃ c, L[j]? = some c ∧ c ≠ 10) ∧ (L.length = l ∨ L[l]? = some 10)
theorem FL.ge {L : List Nat} {l m : Nat} (h : FL L l) (a : ∀ j, j < m → ∃ c, L[j]? = some c ∧ c ≠ 10) : m ≤ l := by
  refine Nat.le_of_not_lt fun lt => ?_
  obtain ⟨c, h1, h2⟩ := a l lt
  rcases h.2 with e | e
  · rw [List.getElem?_eq_none (by omega)] at h1; cases h1
  · rw [e] at h1; cases h1; exact h2 rfl
theorem FL.eq {L : List Nat} {l m : Nat} (h : FL L l) (a : ∀ j, j < m → ∃ c, L[j]? = some c ∧ c ≠ 10) (b : L.length = m ∨ L[m]? = some 10) : l = m := by
  have ge := h.ge a
  refine Nat.le_antisymm (Nat.le_of_not_lt fun lt => ?_) ge
  obtain ⟨c, h1, h2⟩ := h.1 m lt
  rcases b with e | e
  · rw [List.getElem?_eq_none (by omega)] at h1; cases h1
  · rw [e] at h1; cases h1; exact h2 rfl
abbrev nL (l : Nat) : Nat := min (l / 2 + 1) 6
def TB (L : List Nat) (i : Nat) : Prop := ∃ l, FL L l ∧ (∀ j, j < i → j < whN (nL l) ∧ fitN (nL l) L j) ∧ tbad (nL l) L i
theorem least_not {P : Nat → Prop} : ∀ n : Nat, ¬ P n → ∃ i, i ≤ n ∧ ¬ P i ∧ ∀ j, j < i → P j
  | 0, h => ⟨0, Nat.le_refl _, h, fun j hj => absurd hj (Nat.not_lt_zero j)⟩
  | n + 1, h => by
    by_cases q : ∃ m, m ≤ n ∧ ¬ P m
    · obtain ⟨m, h1, h2⟩ := q
      obtain ⟨i, h3, h4, h5⟩ := least_not m h2
      exact ⟨i, by omega, h4, h5⟩
    · exact ⟨n + 1, Nat.le_refl _, h, fun j hj => Classical.byContradiction fun z => q ⟨j, by omega, z⟩⟩
def altN (L : List Nat) (e : Nat) : Prop := ∀ j, j < e → ∃ c, L[j]? = some c ∧ (if j % 2 = 1 then c = 32 else c ∈ dig6)
theorem dig_ne {c : Nat} (h : c ∈ dig6) : c ≠ 10 ∧ c ≠ 32 ∧ 48 ≤ c ∧ c < 58 := by
  simp only [List.mem_cons, List.not_mem_nil, or_false] at h
  omega
theorem altN.ne {L : List Nat} {e : Nat} (h : altN L e) : ∀ j, j < e → ∃ c, L[j]? = some c ∧ c ≠ 10 := fun j hj => by
  obtain ⟨c, h1, h2⟩ := h j hj
  refine ⟨c, h1, ?_⟩
  by_cases o : j % 2 = 1
  · rw [if_pos o] at h2; omega
  · rw [if_neg o] at h2; exact (dig_ne h2).1
theorem TB.at_ {L : List Nat} {n i m : Nat} (h1 : ∀ j, j < i → j < whN n ∧ fitN n L j) (h2 : tbad n L i) (a : ∀ j, j < m → j < whN n ∧ fitN n L j) : m ≤ i := by
  refine Nat.le_of_not_lt fun lt => ?_
  obtain ⟨q, c, e, f⟩ := a i lt
  rcases h2 with ⟨c2, e2, h⟩ | ⟨h, _⟩
  · rw [e] at e2; cases e2
    rcases h with h | h
    · omega
    · rw [f] at h; cases h
  · rw [h, List.getElem?_eq_none (Nat.le_refl _)] at e; cases e
end BW
set_option maxHeartbeats 1000000
namespace DL
open PySem PySem.Spec PyProof.Rows L2
open PySem.W (Frag)
section
variable {X : Cx} {k : Nat} {f C : Addr} {fd : FuncData} {ps : List PySem.Str} {sp : Sp} {x : PySem.Str} {p pos : Pos} {e : Expr} {es : List Expr} {t : TA}
theorem pe_makeS {E : L2.St → XK} (M : Mk X.K C f) (F : FnOk X.prog X.w X.K X.mg X.base (L2.CX X.prog X.w) k f fd ps sp) (hr : Room (k + 1) X.A) (hg : Gl X x) (hm : X.mg x = some (.ref C)) (hb : Binds X.K fd ps []) (hx : ∀ σ, PassesAt (L2.CX X.prog X.w) X σ (E σ))
    (ha : PA X (e :: es) t) (hdb : (x == ("__debug__" : PySem.Str)) = false := by decide) (he : starEach (e :: es) X.env = (false, eval e X.env) :: starEach es X.env := by rfl) (hpl : (backTo pos (starEach es X.env)).any (·.1) = false := by rfl) :
    PE X (.Call (.Name x p) (e :: es) [] pos) (fun σ H Q => tMake C sp [] (E σ) t σ H Q) := by
  constructor
  intro pins s σ H Q I h
  refine wpAny_Call_Name_kw (ld_glob I hg hm (PySem.W.callWith_K (h₀ := X.base) I.ok.mod.kin M.kp (thn (ha.run pos pins s σ H _ I h) ?_) he hpl) hdb)
  rintro us s1 ⟨vs, H1, I1, r, hq⟩
  refine ⟨I1.kIn, ?_⟩
  have n1 : H1 (s1.heap.objs.size + 1) = none := I1.hok.fresh (Nat.le_succ _)
  have n2 : H1 s1.heap.objs.size = none := I1.hok.fresh (Nat.le_refl _)
  have q := hq _ _ n1 n2 (Nat.ne_of_lt (Nat.lt_succ_self _))
  have I2 := Inv.made (C := C) I1
  rw [List.append_nil] at q
  have r2 : Vals (V.ref (s1.heap.objs.size + 1) :: vs) (Value.ref (s1.heap.objs.size + 1) :: us) := .cons rfl r
  have hl : (Value.ref (s1.heap.objs.size + 1) :: us ++ []).length = ps.length := by
    rw [List.append_nil, ← r2.length]
    exact F.len _ _ _ _ q
  have b := hb _ (Value.ref (s1.heap.objs.size + 1) :: us) I2.kIn hl
  rw [List.append_nil] at b
  refine wpAny_call (make_map (f := f) I1.kIn M.makes M.init (beq_iff_eq.mp M.fn) (codeAny_mono (F.run _ X.stack _ _ ⟨Value.ref (s1.heap.objs.size + 1) :: us, []⟩ (Value.ref (s1.heap.objs.size + 1) :: us) _ _ (E σ) (hr.make C us []) (I2.env0.make C us []) b r2 q) ?_))
  rintro (e' | fl) s' hq'
  · exact hx σ pins _ _ e' s' I2 hq'
  · cases fl with
    | ret u =>
      obtain ⟨v, H', I3, rv, ev, q3⟩ := I2.after hq'
      subst ev
      exact ⟨rv, ⟨V.ref (s1.heap.objs.size + 1), H', I3, rfl, q3⟩⟩
    | _ => exact False.elim hq'
end
structure MakB (P : Program) (w : World) (K : Frag) (mg : PySem.Str → Option Value) (base : Heap) (k : Nat) (x : PySem.Str) (sp : DSpX) : Prop where
  ex : ∃ C f fd ps, Mk K C f ∧ FnOk P w K mg base (L2.CX P w) k f fd ps (spDX K false sp) ∧ mg x = some (.ref C) ∧ Binds K fd ps []
abbrev dMakeB (sp : DSpX) (Ex : EX) (t : DA) : DE := fun s Q => t s fun ds k => ∀ C : Addr, sp (.ins C [] [] :: ds) 0 (fun _ _ => False) (fun d _ => Ex d (s.at k))
section
variable {X : Cx} {c : C} {k j : Nat} {p pos : Pos} {e : Expr} {es : List Expr} {t : DA} {x : PySem.Str} {sp : DSpX} {Ex : EX}
theorem pd_makeB (hK : c.K = X.K) (tk : Takes X (WL c Ex)) (F : MakB X.prog X.w X.K X.mg X.base k x sp) (hr : Room j X.A) (hk : k + 1 ≤ j) (ha : PA X (e :: es) (LA c t)) (hg : Gl X x := by rfl) (hdb : (x == ("__debug__" : PySem.Str)) = false := by decide) (he : starEach (e :: es) X.env = (false, eval e X.env) :: starEach es X.env := by rfl) (hpl : (backTo pos (starEach es X.env)).any (·.1) = false := by rfl) :
    PE X (.Call (.Name x p) (e :: es) [] pos) (LE c (dMakeB sp Ex t)) := by
  obtain ⟨Cl, f, fd, ps, M, G, hm, b⟩ := F.ex
  refine (pe_makeS M G (hr.mono hk) hg hm b (fun σ => passAt tk σ) ha hdb he hpl).weak fun σ H Q ⟨s, R, rp, q, fn⟩ => ⟨s, _, rp, q, fun ds k1 h1 vs H1 r1 a1 e1 y dx hy hd ne => ?_⟩
  have r2 := r1.new (o := .own y) hd
  have hy2 : (upd H1 dx (.own y)) y = none := by rw [upd_ne ne.symm]; exact hy
  have r3 := r2.1.new (o := .ins Cl dx []) hy2
  have at_ := r2.1.at_new (o := .ins Cl dx []) hy2
  refine ⟨none, Ml c.M ++ s.X, 0, _ :: ds, _ :: vs, _, _, ⟨rfl, by rw [List.append_nil]⟩, ⟨fun a _ => by simp [Ml], r3.1.allHid, trivial, .cons (.ins (ns := []) (vs := []) at_ rfl .nil) ((hK ▸ e1 : RlA X.K _ vs ds).mono (r2.2.trans r3.2).sub), r3.1.allTb⟩, h1 Cl, fun d k' hR v H' af er => hR.elim, fun d k' hE cls dd H' af er => ?_⟩
  have z := Rep.after (s := s.at k1) r3.1 ⟨af.sub, af.old, af.m, af.tb⟩
  exact ⟨s.at k1, d, z.1, hK ▸ er, hE⟩
end
end DL
set_option maxHeartbeats 1000000
namespace BW
open PySem L2 DL
abbrev badBonds (e : D) : D := .exc "BadBonds" ["place"] [e]
def NoRows (d : D) : Prop := d.tname.isSome = true ∧ (d.items = none ∨ d.items = some [])
def NoRow (n : Nat) (d : D) : Prop := d.tname.isSome = true ∧ ∀ es, d.items = some es → es.length ≠ n
def OkRow (n : Nat) (d : D) : Prop := ∃ es, d.items = some es ∧ es.length = n ∧ ∀ e ∈ es, e.tname.isSome = true
def Rws (rs : List D) : Prop := 1 ≤ rs.length ∧ rs.length ≤ 6 ∧ ∀ q ∈ rs, OkRow rs.length q
def itD (rs : List D) (i j : Nat) : D := (((rs.getD i .non).items).getD []).getD j .non
def stands (rs : List D) (i j : Nat) : Bool := match itD rs i j with
  | .int z => if i = j then decide (z = 1) else if i < j then (lookI kd_WEIGHTS z).isSome else (match itD rs j i with | .int y => decide (z = y) | _ => false)
  | _ => false
def BadS (d e : D) : Prop := (NoRows d ∧ e = badBonds .non) ∨ (∃ rs : List D, d.items = some rs ∧ 6 < rs.length ∧ e = tooGreat 6) ∨
  ∃ (rs : List D) (i : Nat) (q : D), d.items = some rs ∧ 1 ≤ rs.length ∧ rs.length ≤ 6 ∧ (∀ j, j < i → ∃ r, rs[j]? = some r ∧ OkRow rs.length r) ∧ rs[i]? = some q ∧ NoRow rs.length q ∧ e = badBonds .non
def BadT (d e : D) : Prop := BadS d e ∨ ∃ rs : List D, d.items = some rs ∧ Rws rs ∧ ∃ a b : Nat, a < rs.length ∧ b < rs.length ∧ (∀ i j : Nat, (i < a ∧ j < rs.length) ∨ (i = a ∧ j < b) → stands rs i j = true) ∧ stands rs a b = false ∧ e = badBonds (.tup [.int ((a : Int) + 1), .int ((b : Int) + 1)])
theorem isi2_of {d : D} (h : d.tname.isSome = true) : ∃ n a b, d.tname = some n ∧ kitB n "list" = some a ∧ kitB n "tuple" = some b ∧ (a || b) = d.items.isSome := by
  cases d <;> first
    | (exfalso; cases h; done)
    | exact ⟨_, _, _, rfl, rfl, rfl, rfl⟩
theorem some_name {d : D} {rs : List D} (h : d.items = some rs) : d.tname.isSome = true := by
  cases d <;> first | rfl | cases h
def spX_check_shapeB : DSpX := fun ds k R E => ∃ d, ds = [d] ∧ ((∃ e, BadS d e ∧ E e k) ∨ ∃ rs, d.items = some rs ∧ Rws rs ∧ R .non k)
abbrev tX_check_shapeB (Ex : EX) : DS := (dSeq (dIfS (dOr (dNot (dTru (dIsi2 "list" "tuple" (dVar 0)))) (dTB (dOp oEq (dLenN 0) (dC (.int 0))))) (dRaise "BadBonds" "place" Ex (dC .non)) dNext)
  (dSeq (dIfS (dTB (dOp oGt (dLenN 0) (dC (.int (6))))) (dRaise "TooGreat" "most" Ex (dC (.int (6)))) dNext)
  (dFor (iSeq (dVar 0)) (dgN 1) (dIfS (dOr (dNot (dTru (dIsi2 "list" "tuple" (dVar 1)))) (dTB (dOp oNe (dLenN 1) (dLenN 0)))) (dRaise "BadBonds" "place" Ex (dC .non)) dNext))))
section
variable {DD : DEnds} {X : List Addr} {k : Nat} {d : D} {x1 : Sl} {rs : List D} {Ex : EX}
abbrev t_cs1 (Ex : EX) : DS := (dIfS (dOr (dNot (dTru (dIsi2 "list" "tuple" (dVar 0)))) (dTB (dOp oEq (dLenN 0) (dC (.int 0))))) (dRaise "BadBonds" "place" Ex (dC .non)) dNext)
theorem r_cs1 (h : d.items = some rs) (l : rs ≠ []) (fin : DD.nx ⟨X, [.dat d, x1], k⟩) : t_cs1 Ex DD ⟨X, [.dat d, x1], k⟩ := by
  obtain ⟨n, a, b, e1, e2, e3, e4⟩ := isi2_of (some_name h)
  have pos := List.length_pos_iff.mpr l
  refine ⟨_, rfl, n, a, b, e1, e2, e3, _, rfl, ?_⟩
  rw [e4, h]
  refine iteF ⟨rs, h, rfl, rfl, _, rfl, ?_⟩
  rw [eqvI, decide_eq_false (by omega)]
  exact iteF fin
theorem r_cs2 (h : d.items = some rs) (l : rs.length ≤ 6) (fin : DD.nx ⟨X, [.dat d, x1], k⟩) : (dIfS (dTB (dOp oGt (dLenN 0) (dC (.int (6))))) (dRaise "TooGreat" "most" Ex (dC (.int (6)))) dNext) DD ⟨X, [.dat d, x1], k⟩ := by
  refine ⟨rs, h, _, rfl, ?_⟩
  rw [decide_eq_false (by omega)]
  exact iteF fin
theorem r_cs3 {q : D} {n : Nat} (h : d.items = some rs) (hn : rs.length = n) (g : (OkRow n q ∧ DD.nx ⟨X, [.dat d, .dat q], k⟩) ∨ (NoRow n q ∧ Ex (badBonds .non) ⟨X, [.dat d, .dat q], k⟩)) :
    (dIfS (dOr (dNot (dTru (dIsi2 "list" "tuple" (dVar 1)))) (dTB (dOp oNe (dLenN 1) (dLenN 0)))) (dRaise "BadBonds" "place" Ex (dC .non)) dNext) DD ⟨X, [.dat d, .dat q], k⟩ := by
  subst hn
  rcases g with ⟨⟨es, e, l, _⟩, g⟩ | ⟨⟨tn, no⟩, g⟩
  · obtain ⟨n, a, b, e1, e2, e3, e4⟩ := isi2_of (some_name e)
    refine ⟨_, rfl, n, a, b, e1, e2, e3, _, rfl, ?_⟩
    rw [e4, e]
    refine iteF ⟨es, e, rs, h, rfl, rfl, _, rfl, ?_⟩
    rw [eqvI, decide_eq_true (by omega)]
    exact iteF g
  · obtain ⟨n, a, b, e1, e2, e3, e4⟩ := isi2_of tn
    refine ⟨_, rfl, n, a, b, e1, e2, e3, _, rfl, ?_⟩
    rw [e4]
    cases e : q.items with
    | none => exact iteT (iteT g)
    | some es =>
      have := no es e
      refine iteF ⟨es, e, rs, h, rfl, rfl, _, rfl, ?_⟩
      rw [eqvI, decide_eq_false (by omega)]
      exact iteT g
end
theorem rX_check_shapeB (X : List Addr) (ds : List D) (k : Nat) (R E : D → Nat → Prop) (h : spX_check_shapeB ds k R E) : tX_check_shapeB (fun d s => E d s.k) (En R) (St0 false 2 ds X k) := by
  obtain ⟨d, rfl, ⟨e, hb, h⟩ | ⟨rs, hd, ⟨l1, l6, hr⟩, h⟩⟩ := h
  · rcases hb with ⟨⟨tn, g⟩, rfl⟩ | ⟨rs, hd, l, rfl⟩ | ⟨rs, i, q, hd, l1, l6, hj, hq, nq, rfl⟩
    · obtain ⟨n, a, b, e1, e2, e3, e4⟩ := isi2_of tn
      refine ⟨_, rfl, n, a, b, e1, e2, e3, _, rfl, ?_⟩
      rw [e4]
      rcases g with g | g
      · rw [g]
        exact iteT (iteT h)
      · rw [g]
        refine iteF ⟨[], g, rfl, rfl, _, rfl, ?_⟩
        rw [eqvI, decide_eq_true (by decide)]
        exact iteT h
    · refine r_cs1 (x1 := .no) hd (fun z => by rw [z] at l; exact absurd l (by decide)) ?_
      refine ⟨rs, hd, _, rfl, ?_⟩
      rw [decide_eq_true (by omega)]
      exact iteT h
    · refine r_cs1 (x1 := .no) hd (fun z => by rw [z] at l1; exact absurd l1 (by decide)) (r_cs2 hd l6 ?_)
      refine ⟨_, rfl, rs, hd, fun m s' => m ≤ i ∧ ∃ x, s' = ⟨X, [.dat d, x], k⟩, ⟨Nat.zero_le _, _, rfl⟩, ?_, ?_⟩
      · rintro m q' s' hm ⟨mi, x, rfl⟩
        refine r_cs3 (d := d) (q := q') hd rfl ?_
        by_cases z : m = i
        · subst z
          rw [hq] at hm; cases hm
          exact .inr ⟨nq, h⟩
        · obtain ⟨r, e1, e2⟩ := hj m (by omega)
          rw [e1] at hm; cases hm
          exact .inl ⟨e2, by omega, _, rfl⟩
      · rintro s' ⟨mi, _⟩
        have := (List.getElem?_eq_some_iff.mp hq).1
        omega
  · refine r_cs1 (x1 := .no) hd (fun z => by rw [z] at l1; exact absurd l1 (by decide)) (r_cs2 hd l6 ?_)
    refine ⟨_, rfl, rs, hd, fun m s' => ∃ x, s' = ⟨X, [.dat d, x], k⟩, ⟨_, rfl⟩, ?_, ?_⟩
    · rintro m q' s' hm ⟨x, rfl⟩
      exact r_cs3 (d := d) (q := q') hd rfl (.inl ⟨hr q' (List.mem_of_getElem? hm), _, rfl⟩)
    · rintro s' ⟨x, rfl⟩
      exact h
def sp_can_standXU : DSp := fun ds k R => ∃ d rs, ∃ a b : Nat, ds = [d, .int ((a : Int) + 1), .int ((b : Int) + 1)] ∧ d.items = some rs ∧ Rws rs ∧ a < rs.length ∧ b < rs.length ∧ (b < a → ∃ z, itD rs b a = .int z) ∧ R (.bl (stands rs a b)) k
theorem row_of_it {rs : List D} (h : Rws rs) {i j : Nat} (hi : i < rs.length) (hj : j < rs.length) {z y : Int} (e : z = (i : Int)) (e2 : y = (j : Int)) : ∃ q es, atI rs z = some q ∧ q.items = some es ∧ atI es y = some (itD rs i j) ∧ (itD rs i j).tname.isSome = true := by
  obtain ⟨es, h1, h2, h3⟩ := h.2.2 (rs[i]) (List.getElem_mem hi)
  refine ⟨rs[i], es, by rw [e]; exact atI_nat (List.getElem?_eq_getElem hi), h1, ?_⟩
  have hj2 : j < es.length := by omega
  have e3 : itD rs i j = es[j] := by
    have e0 : rs.getD i .non = rs[i] := by rw [List.getD_eq_getElem?_getD, List.getElem?_eq_getElem hi]; rfl
    unfold itD
    rw [e0, h1]
    show es.getD j .non = _
    rw [List.getD_eq_getElem?_getD, List.getElem?_eq_getElem hj2]; rfl
  rw [e3]
  exact ⟨by rw [e2]; exact atI_nat (List.getElem?_eq_getElem hj2), h3 _ (List.getElem_mem hj2)⟩
theorem r_can_standX (X : List Addr) (ds : List D) (k : Nat) (R : D → Nat → Prop) (h : sp_can_standXU ds k R) : t_can_standU (En R) (St0 false 4 ds X k) := by
  obtain ⟨d, rs, a, b, rfl, hd, hr, ha, hb, hz, h⟩ := h
  obtain ⟨q, es, e1, e2, e3, e4⟩ := row_of_it hr ha hb (z := (a : Int) + 1 - 1) (y := (b : Int) + 1 - 1) (by omega) (by omega)
  refine ⟨rs, hd, _, rfl, _, _, rfl, e1, _, rfl, es, _, e2, e3, ?_⟩
  unfold stands at h
  cases e : itD rs a b with
  | int z =>
    rw [e] at h
    dsimp only at h
    refine ⟨_, rfl, _, rfl, rfl, _, rfl, iteF ?_⟩
    refine ⟨_, rfl, _, rfl, rfl, rfl, _, rfl, ?_⟩
    rw [eqvI]
    refine iteD (fun g => ?_) fun ne => ?_
    · have g : a = b := by omega
      rw [if_pos g] at h
      intro X
      refine ⟨_, rfl, rfl, rfl, ?_⟩
      rw [eqvI]
      exact h
    · have ne : ¬ a = b := by omega
      rw [if_neg ne] at h
      refine ⟨_, rfl, _, rfl, _, rfl, iteD (fun lt => ?_) fun ge => ?_⟩
      · rw [if_pos (by omega)] at h
        intro X
        exact ⟨_, rfl, z, rfl, h⟩
      · rw [if_neg (by omega)] at h
        obtain ⟨y, hy⟩ := hz (by omega)
        rw [hy] at h
        intro X
        obtain ⟨q2, es2, f1, f2, f3, _⟩ := row_of_it hr hb ha (z := (b : Int) + 1 - 1) (y := (a : Int) + 1 - 1) (by omega) (by omega)
        rw [hy] at f3
        refine ⟨_, rfl, rs, hd, _, rfl, _, _, rfl, f1, _, rfl, es2, _, f2, f3, rfl, rfl, ?_⟩
        rw [eqvI]
        exact h
  | _ =>
    rw [e] at h e4
    first
      | (exfalso; cases e4; done)
      | exact ⟨_, rfl, _, rfl, rfl, _, rfl, iteT fun X => h⟩
def spX_check_tableB : DSpX := fun ds k _ E => ∃ d e, ds = [d] ∧ BadT d e ∧ E e k
abbrev tX_check_tableB (Ex : EX) : DS := (dSeq (dDrop (dCallX (spX_check_shapeB) Ex (dCons (dVar 0) dNil)))
  (dSeq (dSet 1 (dFr (dLr2 (dC (.int 1)) (dOp oAdd (dLenN 0) (dC (.int 1))))))
  (dFor (iLst (dVar 1)) (dgN 2) (dFor (iLst (dVar 1)) (dgN 3) (dIfS (dNot (dTru (dCall sp_can_standXU (dCons (dVar 0) (dCons (dVar 2) (dCons (dVar 3) dNil)))))) (dRaise "BadBonds" "place" Ex (dTup (dCons (dVar 2) (dCons (dVar 3) dNil)))) dNext)))))
theorem stands_int {rs : List D} {i j : Nat} (h : stands rs i j = true) : ∃ z, itD rs i j = .int z := by
  unfold stands at h
  cases e : itD rs i j <;> rw [e] at h <;> first | exact ⟨_, rfl⟩ | cases h
theorem rX_check_tableB (X : List Addr) (ds : List D) (k : Nat) (R E : D → Nat → Prop) (h : spX_check_tableB ds k R E) : tX_check_tableB (fun d s => E d s.k) (En R) (St0 false 4 ds X k) := by
  obtain ⟨d, e, rfl, hb | ⟨rs, hd, hr, a, b, ha, hb, hs, hn, rfl⟩, h⟩ := h
  · exact ⟨_, rfl, d, rfl, .inl ⟨e, hb, h⟩⟩
  refine ⟨_, rfl, d, rfl, .inr ⟨rs, hd, hr, ?_⟩⟩
  have l6 := hr.2.1
  refine ⟨rs, hd, 1, _, rfl, rfl, ⟨by omega, by omega, ?_, ?_⟩, ?_⟩
  · omega
  · omega
  have en : ((rs.length : Int) + 1 - 1).toNat = rs.length := by omega
  rw [en]
  refine ⟨_, rfl, _, rfl, fun i s' => i ≤ a ∧ ∃ x y, s' = ⟨X, [.dat d, .dat (.lst (rngD 1 rs.length)), x, y], k⟩, ⟨Nat.zero_le _, _, _, rfl⟩, ?_, ?_⟩
  · rintro i d' s' hd' ⟨ia, x, y, rfl⟩
    obtain ⟨hi, rfl⟩ := rngD_at hd'
    refine ⟨_, rfl, _, rfl, fun j s' => (i = a → j ≤ b) ∧ ∃ y, s' = ⟨X, [.dat d, .dat (.lst (rngD 1 rs.length)), .dat (.int (1 + i)), y], k⟩, ⟨fun _ => Nat.zero_le _, _, rfl⟩, ?_, ?_⟩
    · rintro j d' s' hd' ⟨jb, y, rfl⟩
      obtain ⟨hj, rfl⟩ := rngD_at hd'
      refine ⟨_, rfl, _, rfl, _, rfl, d, rs, i, j, by rw [Int.add_comm 1, Int.add_comm 1], hd, hr, hi, hj, fun lt => stands_int (hs j i (by omega)), ?_⟩
      by_cases z : i = a ∧ j = b
      · obtain ⟨rfl, rfl⟩ := z
        rw [hn]
        refine ⟨_, rfl, iteT ⟨_, rfl, _, rfl, by show 2 ≤ lim; decide, ?_⟩⟩
        show E (badBonds (.tup [.int (1 + (i : Int)), .int (1 + (j : Int))])) k
        rw [Int.add_comm 1, Int.add_comm 1]
        exact h
      · rw [hs i j (by omega)]
        exact ⟨_, rfl, iteF ⟨fun q => by have := jb q; omega, _, rfl⟩⟩
    · rintro s' ⟨jb, y, rfl⟩
      rw [rngD_len] at jb
      refine ⟨?_, _, _, rfl⟩
      have : i ≠ a := fun q => by have := jb q; omega
      omega
  · rintro s' ⟨ia, _⟩
    rw [rngD_len] at ia
    omega
def spX_mk_Bonds : DSpX := fun ds k _ E => ∃ C d e, ds = [.ins C [] [], d] ∧ BadT d e ∧ E e k
abbrev tX_mk_Bonds (Ex : EX) : DS := (dSeq (dDrop (dCallX (spX_check_tableB) Ex (dCons (dVar 1) dNil))) (fun _ _ => False))
theorem rX_mk_Bonds (X : List Addr) (ds : List D) (k : Nat) (R E : D → Nat → Prop) (h : spX_mk_Bonds ds k R E) : tX_mk_Bonds (fun d s => E d s.k) (En R) (St0 false 4 ds X k) := by
  obtain ⟨C, d, e, rfl, hb, h⟩ := h
  exact ⟨_, rfl, d, e, rfl, hb, h⟩
end BW
namespace DL
open PySem L2
open PySem.W (Frag)
end DL
namespace DL
open PySem L2
open PySem.W (Frag)
end DL
set_option maxHeartbeats 1000000
namespace BW
open PySem L2 DL TL
def stM (M : Mat) (a b : Nat) : Bool := if a = b then decide (at2 M a b = 1) else if a < b then (lookI kd_WEIGHTS (at2 M a b)).isSome else decide (at2 M a b = at2 M b a)
theorem lookW {z : Int} : (lookI kd_WEIGHTS z).isSome = true ↔ z = 2 ∨ z = 3 ∨ z = 4 ∨ z = 6 ∨ z = 0 := by
  constructor
  · intro h
    refine Classical.byContradiction fun n => ?_
    have h2 : ¬ z = 2 := fun e => n (.inl e)
    have h3 : ¬ z = 3 := fun e => n (.inr (.inl e))
    have h4 : ¬ z = 4 := fun e => n (.inr (.inr (.inl e)))
    have h6 : ¬ z = 6 := fun e => n (.inr (.inr (.inr (.inl e))))
    have h0 : ¬ z = 0 := fun e => n (.inr (.inr (.inr (.inr e))))
    have : lookI kd_WEIGHTS z = none := by
      have e : kd_WEIGHTS.find? (fun p => decide (p.1 = z)) = none := List.find?_eq_none.mpr fun p hp => by
        unfold kd_WEIGHTS at hp
        simp only [List.mem_cons, List.not_mem_nil, or_false] at hp
        rcases hp with rfl | rfl | rfl | rfl | rfl
        · exact fun y => h2 (of_decide_eq_true y).symm
        · exact fun y => h3 (of_decide_eq_true y).symm
        · exact fun y => h4 (of_decide_eq_true y).symm
        · exact fun y => h6 (of_decide_eq_true y).symm
        · exact fun y => h0 (of_decide_eq_true y).symm
      unfold lookI
      rw [e]; rfl
    rw [this] at h
    cases h
  · rintro (rfl | rfl | rfl | rfl | rfl) <;> rfl
structure Sq (M : Mat) : Prop where
  lo : 1 ≤ M.length
  hi : M.length ≤ 6
  sq : ∀ i, i < M.length → (M.getD i []).length = M.length
def BadM (M : Mat) (a b : Nat) : Prop := a < M.length ∧ b < M.length ∧ (∀ i j, (i < a ∧ j < M.length) ∨ (i = a ∧ j < b) → stM M i j = true) ∧ stM M a b = false
theorem Sq.cases {M : Mat} (h : Sq M) : Tab M ∨ ∃ a b, BadM M a b := by
  by_cases q : ∀ i j, i < M.length → j < M.length → stM M i j = true
  · left
    have dg : ∀ i, i < M.length → at2 M i i = 1 := fun i hi => by
      have := q i i hi hi
      unfold stM at this
      rw [if_pos rfl] at this
      exact of_decide_eq_true this
    have sy : ∀ i j, j < i → i < M.length → at2 M i j = at2 M j i := fun i j lt hi => by
      have := q i j hi (by omega)
      unfold stM at this
      rw [if_neg (by omega), if_neg (by omega)] at this
      exact of_decide_eq_true this
    have up : ∀ i j, i < j → j < M.length → at2 M i j = 2 ∨ at2 M i j = 3 ∨ at2 M i j = 4 ∨ at2 M i j = 6 ∨ at2 M i j = 0 := fun i j lt hj => by
      have := q i j (by omega) hj
      unfold stM at this
      rw [if_neg (by omega), if_pos lt] at this
      exact lookW.mp this
    refine ⟨h.lo, h.hi, h.sq, dg, fun i j hi hj ne => ?_, fun i j hi hj => ?_⟩
    · rcases Nat.lt_or_ge i j with lt | ge
      · exact up i j lt hj
      · rw [sy i j (by omega) hi]; exact up j i (by omega) hi
    · rcases Nat.lt_trichotomy i j with lt | rfl | gt
      · exact (sy j i lt hj).symm
      · rfl
      · exact sy i j gt hi
  · right
    have : ∃ a, a < M.length ∧ ¬ ∀ j, j < M.length → stM M a j = true := Classical.byContradiction fun z => q fun i j hi hj => Classical.byContradiction fun y => z ⟨i, hi, fun w => y (w j hj)⟩
    obtain ⟨a0, ha0, hn0⟩ := this
    obtain ⟨a, a1, a2, a3⟩ := least_not (P := fun i => ∀ j, j < M.length → stM M i j = true) a0 hn0
    have : ∃ b, b < M.length ∧ ¬ stM M a b = true := Classical.byContradiction fun z => a2 fun j hj => Classical.byContradiction fun y => z ⟨j, hj, y⟩
    obtain ⟨b0, hb0, hm0⟩ := this
    obtain ⟨b, b1, b2, b3⟩ := least_not (P := fun j => stM M a j = true) b0 hm0
    refine ⟨a, b, by omega, by omega, fun i j hij => ?_, Bool.eq_false_iff.mpr b2⟩
    rcases hij with ⟨h1, h2⟩ | ⟨rfl, h2⟩
    · exact a3 i h1 j h2
    · exact b3 j h2
abbrev pairD' (a b : Nat) : D := .tup [.int ((a : Int) + 1), .int ((b : Int) + 1)]
end BW
set_option maxHeartbeats 1000000
namespace BW
open PySem L2 DL
def ItB (e : D) : Prop := e.tname.isSome = true ∧ D.nol e = true
def RowB (q : D) : Prop := q.tname.isSome = true ∧ ∀ es, q.items = some es → es.length ≤ 8 ∧ ∀ e ∈ es, ItB e
def OkB (d : D) : Prop := ∃ rs, d = .lst rs ∧ rs.length ≤ 12 ∧ ∀ q ∈ rs, RowB q
def dueX (e u : D) : Prop := (∃ p, e = badBonds p ∧ (p = .non ∨ ∃ a b : Nat, a ≤ 10 ∧ b ≤ 10 ∧ p = pairD' a b) ∧ u = .tup [.str "BadBonds", p]) ∨ (e = tooGreat 6 ∧ u = .tup [.str "TooGreat", .int 6])
def Res (d u : D) : Prop := (∃ e, BadT d e ∧ dueX e u) ∨ ∃ T, matD T d ∧ Tab T ∧ u = .non
def intOf : D → Int
  | .int i => i
  | _ => 0
def matOf (rs : List D) : Mat := rs.map fun q => ((q.items).getD []).map intOf
theorem matOf_len (rs : List D) : (matOf rs).length = rs.length := List.length_map ..
theorem matOf_row {rs : List D} {i : Nat} (hi : i < rs.length) : (matOf rs).getD i [] = (((rs.getD i .non).items).getD []).map intOf := by
  unfold matOf
  rw [List.getD_eq_getElem?_getD, List.getElem?_map, getD_get (d := .non) hi]; rfl
theorem row_len {rs : List D} (h : Rws rs) {i : Nat} (hi : i < rs.length) : ∃ es, (rs.getD i .non).items = some es ∧ es.length = rs.length := by
  have e0 : rs.getD i .non = rs[i] := by rw [List.getD_eq_getElem?_getD, List.getElem?_eq_getElem hi]; rfl
  obtain ⟨es, h1, h2, _⟩ := h.2.2 rs[i] (List.getElem_mem hi)
  exact ⟨es, by rw [e0]; exact h1, h2⟩
theorem matOf_sq {rs : List D} (h : Rws rs) : Sq (matOf rs) := by
  refine ⟨by rw [matOf_len]; exact h.1, by rw [matOf_len]; exact h.2.1, fun i hi => ?_⟩
  rw [matOf_len] at hi ⊢
  obtain ⟨es, h1, h2⟩ := row_len h hi
  rw [matOf_row hi, h1]
  show (es.map intOf).length = _
  rw [List.length_map, h2]
theorem matOf_at {rs : List D} (h : Rws rs) {i j : Nat} (hi : i < rs.length) (hj : j < rs.length) : at2 (matOf rs) i j = intOf (itD rs i j) := by
  obtain ⟨es, h1, h2⟩ := row_len h hi
  unfold at2 itD
  rw [matOf_row hi, h1]
  show (es.map intOf).getD j 0 = intOf (es.getD j .non)
  rw [List.getD_eq_getElem?_getD, List.getElem?_map, List.getD_eq_getElem?_getD]
  cases es[j]? <;> rfl
theorem stands_mat {rs : List D} (h : Rws rs) (all : ∀ i j, i < rs.length → j < rs.length → ∃ z, itD rs i j = .int z) {i j : Nat} (hi : i < rs.length) (hj : j < rs.length) : stands rs i j = stM (matOf rs) i j := by
  obtain ⟨z, e1⟩ := all i j hi hj
  obtain ⟨y, e2⟩ := all j i hj hi
  unfold stands stM
  rw [matOf_at h hi hj, matOf_at h hj hi, e1, e2]; rfl
theorem matOf_d {rs : List D} (h : Rws rs) (all : ∀ i j, i < rs.length → j < rs.length → ∃ z, itD rs i j = .int z) (d : D) (hd : d.items = some rs) : matD (matOf rs) d := by
  refine ⟨rs, ?_, (matOf_len rs).symm, fun i hi => ?_⟩
  · cases d <;> first | (cases hd; exact .inl rfl) | (cases hd; exact .inr rfl) | cases hd
  rw [matOf_len] at hi
  obtain ⟨es, h1, h2⟩ := row_len h hi
  have e0 : rs.getD i .non = rs[i] := by rw [List.getD_eq_getElem?_getD, List.getElem?_eq_getElem hi]; rfl
  refine ⟨rs[i], List.getElem?_eq_getElem hi, ?_⟩
  rw [matOf_row hi, h1]
  rw [e0] at h1
  have es_int : (es.map intOf).map D.int = es := by
    refine List.ext_getElem? fun j => ?_
    rw [List.getElem?_map, List.getElem?_map]
    by_cases hj : j < es.length
    · rw [List.getElem?_eq_getElem hj]
      obtain ⟨z, e⟩ := all i j hi (by omega)
      unfold itD at e
      rw [e0, h1] at e
      have e : es.getD j .non = .int z := e
      rw [List.getD_eq_getElem?_getD, List.getElem?_eq_getElem hj] at e
      have e : es[j] = .int z := e
      rw [e]; rfl
    · rw [List.getElem?_eq_none (by omega)]; rfl
  show rs[i] = lI (es.map intOf) ∨ rs[i] = tI (es.map intOf)
  show rs[i] = .lst ((es.map intOf).map D.int) ∨ rs[i] = .tup ((es.map intOf).map D.int)
  rw [es_int]
  cases e : rs[i] <;> rw [e] at h1 <;> first | (cases h1; exact .inl rfl) | (cases h1; exact .inr rfl) | cases h1
theorem res_of {d : D} (h : OkB d) : ∃ u, Res d u := by
  obtain ⟨rs, rfl, l12, hr⟩ := h
  by_cases ne : rs = []
  · exact ⟨_, .inl ⟨_, .inl (.inl ⟨⟨rfl, .inr (by rw [ne]; rfl)⟩, rfl⟩), .inl ⟨_, rfl, .inl rfl, rfl⟩⟩⟩
  have pos := List.length_pos_iff.mpr ne
  by_cases l6 : 6 < rs.length
  · exact ⟨_, .inl ⟨_, .inl (.inr (.inl ⟨rs, rfl, l6, rfl⟩)), .inr ⟨rfl, rfl⟩⟩⟩
  by_cases q : ∀ j, j < rs.length → ∃ r, rs[j]? = some r ∧ OkRow rs.length r
  · have rw_ : Rws rs := ⟨by omega, by omega, fun r hr => by
      obtain ⟨j, hj, e⟩ := List.getElem_of_mem hr
      obtain ⟨r', h1, h2⟩ := q j hj
      rw [List.getElem?_eq_getElem hj, e] at h1
      cases h1
      exact h2⟩
    by_cases s : ∀ i j, i < rs.length → j < rs.length → stands rs i j = true
    · have all : ∀ i j, i < rs.length → j < rs.length → ∃ z, itD rs i j = .int z := fun i j hi hj => stands_int (s i j hi hj)
      rcases (matOf_sq rw_).cases with tb | ⟨a, b, h1, h2, _, h4⟩
      · exact ⟨_, .inr ⟨_, matOf_d rw_ all _ rfl, tb, rfl⟩⟩
      · rw [matOf_len] at h1 h2
        rw [← stands_mat rw_ all h1 h2, s a b h1 h2] at h4
        cases h4
    · have : ∃ a, a < rs.length ∧ ¬ ∀ j, j < rs.length → stands rs a j = true := Classical.byContradiction fun z => s fun i j hi hj => Classical.byContradiction fun y => z ⟨i, hi, fun w => y (w j hj)⟩
      obtain ⟨a0, ha0, hn0⟩ := this
      obtain ⟨a, a1, a2, a3⟩ := least_not (P := fun i => ∀ j, j < rs.length → stands rs i j = true) a0 hn0
      have : ∃ b, b < rs.length ∧ ¬ stands rs a b = true := Classical.byContradiction fun z => a2 fun j hj => Classical.byContradiction fun y => z ⟨j, hj, y⟩
      obtain ⟨b0, hb0, hm0⟩ := this
      obtain ⟨b, b1, b2, b3⟩ := least_not (P := fun j => stands rs a j = true) b0 hm0
      refine ⟨_, .inl ⟨_, .inr ⟨rs, rfl, rw_, a, b, by omega, by omega, fun i j hij => ?_, Bool.eq_false_iff.mpr b2, rfl⟩, .inl ⟨_, rfl, .inr ⟨a, b, by omega, by omega, rfl⟩, rfl⟩⟩⟩
      rcases hij with ⟨h1, h2⟩ | ⟨rfl, h2⟩
      · exact a3 i h1 j h2
      · exact b3 j h2
  · have : ∃ j0, ¬ (j0 < rs.length → ∃ r, rs[j0]? = some r ∧ OkRow rs.length r) := Classical.byContradiction fun z => q fun j hj => Classical.byContradiction fun y => z ⟨j, fun w => y (w hj)⟩
    obtain ⟨j0, hj0⟩ := this
    obtain ⟨i, i1, i2, i3⟩ := least_not (P := fun j => j < rs.length → ∃ r, rs[j]? = some r ∧ OkRow rs.length r) j0 hj0
    have il : i < rs.length := Classical.byContradiction fun z => i2 fun y => absurd y z
    have hq := hr rs[i] (List.getElem_mem il)
    refine ⟨_, .inl ⟨_, .inl (.inr (.inr ⟨rs, i, rs[i], rfl, by omega, by omega, fun j hj => i3 j hj (by omega), List.getElem?_eq_getElem il, ⟨hq.1, fun es e l => ?_⟩, rfl⟩)), .inl ⟨_, rfl, .inl rfl, rfl⟩⟩⟩
    exact i2 fun _ => ⟨rs[i], List.getElem?_eq_getElem il, es, e, l, fun x hx => ((hq.2 es e).2 x hx).1⟩
def sp__law_dueB : DSp := fun ds k R => ∃ rs u, ds = [.lst rs] ∧ rs.length ≤ 12 ∧ Res (.lst rs) u ∧ R u k
abbrev t_du1 : DS := (dIfS (dOr (dTB (dOp oEq (dLenN 0) (dC (.int 0)))) (dTB (dOp oGt (dLenN 0) (dC (.int 6))))) (dRet (dIf (dTB (dOp oEq (dLenN 0) (dC (.int 0)))) (dTup (dCons (dC (.str "BadBonds")) (dCons (dC .non) dNil))) (dTup (dCons (dC (.str "TooGreat")) (dCons (dC (.int 6)) dNil))))) dNext)
abbrev t_du2 : DS := (dIfS (dOr (dNot (dTru (dIsi2 "list" "tuple" (dVar 1)))) (dTB (dOp oNe (dLenN 1) (dLenN 0)))) (dRet (dTup (dCons (dC (.str "BadBonds")) (dCons (dC .non) dNil)))) dNext)
abbrev t_du3 : DS := (dSet 4 (dOp oIx (dIxN 0 (dVar 2)) (dVar 3)))
abbrev t_du4 : DS := (dSet 5 (dAndV (dIsi "int" (dVar 4)) (dNotV (dIsi "bool" (dVar 4)))))
abbrev t_du5 : DS := (dIfS (dTB (dOp oEq (dVar 2) (dVar 3))) (dSet 5 (dAndV (dVar 5) (dOp oEq (dVar 4) (dC (.int 1))))) (dSet 5 (dAndV (dVar 5) (dAndV (dOp oIn (dVar 4) (dTup (dCons (dC (.int 2)) (dCons (dC (.int 3)) (dCons (dC (.int 4)) (dCons (dC (.int 6)) (dCons (dC (.int 0)) dNil))))))) (dOrV (dOp oLt (dVar 2) (dVar 3)) (dOp oEq (dVar 4) (dOp oIx (dIxN 0 (dVar 3)) (dVar 2))))))))
abbrev t_du6 : DS := (dIfS (dNot (dTru (dVar 5))) (dRet (dTup (dCons (dC (.str "BadBonds")) (dCons (dTup (dCons (dOp oAdd (dVar 2) (dC (.int 1))) (dCons (dOp oAdd (dVar 3) (dC (.int 1))) dNil))) dNil)))) dNext)
abbrev t__law_dueB : DS := (dSeq t_du1
  (dSeq (dFor (iLst (dVar 0)) (dgN 1) t_du2)
  (dSeq (dFor (iR1 (dLenN 0)) (dgN 2) (dFor (iR1 (dLenN 0)) (dgN 3) (dSeq t_du3
  (dSeq t_du4
  (dSeq t_du5
  t_du6)))))
  (dRet (dC .non)))))
abbrev slUr (rs : List D) (x1 x2 x3 x4 x5 : Sl) : List Sl := [.dat (.lst rs), x1, x2, x3, x4, x5]
section
variable {rs : List D} {X : List Addr} {k : Nat} {x1 x2 x3 x4 x5 : Sl} {DD : DEnds} {i j : Nat}
theorem r_du1 (h : (rs = [] ∧ DD.rt (.tup [.str "BadBonds", .non]) k) ∨ (6 < rs.length ∧ DD.rt (.tup [.str "TooGreat", .int 6]) k) ∨ (1 ≤ rs.length ∧ rs.length ≤ 6 ∧ DD.nx ⟨X, slUr rs x1 x2 x3 x4 x5, k⟩)) : t_du1 DD ⟨X, slUr rs x1 x2 x3 x4 x5, k⟩ := by
  refine ⟨rs, rfl, rfl, rfl, _, rfl, ?_⟩
  rw [eqvI]
  rcases h with ⟨rfl, h⟩ | ⟨l, h⟩ | ⟨l1, l6, h⟩
  · rw [decide_eq_true (by rfl)]
    refine iteT (iteT fun X' => ⟨[], rfl, rfl, rfl, _, rfl, ?_⟩)
    rw [eqvI, decide_eq_true (by rfl)]
    exact iteT ⟨by show 2 ≤ lim; decide, h⟩
  · rw [decide_eq_false (by omega)]
    refine iteF ⟨rs, rfl, _, rfl, ?_⟩
    rw [decide_eq_true (by omega)]
    refine iteT fun X' => ⟨rs, rfl, rfl, rfl, _, rfl, ?_⟩
    rw [eqvI, decide_eq_false (by omega)]
    exact iteF ⟨by show 2 ≤ lim; decide, h⟩
  · rw [decide_eq_false (by omega)]
    refine iteF ⟨rs, rfl, _, rfl, ?_⟩
    rw [decide_eq_false (by omega)]
    exact iteF h
theorem r_du2 {q : D} (g : (OkRow rs.length q ∧ DD.nx ⟨X, slUr rs (.dat q) x2 x3 x4 x5, k⟩) ∨ (NoRow rs.length q ∧ DD.rt (.tup [.str "BadBonds", .non]) k)) : t_du2 DD ⟨X, slUr rs (.dat q) x2 x3 x4 x5, k⟩ := by
  rcases g with ⟨⟨es, e, l, _⟩, g⟩ | ⟨⟨tn, no⟩, g⟩
  · obtain ⟨n, a, b, e1, e2, e3, e4⟩ := isi2_of (some_name e)
    refine ⟨_, rfl, n, a, b, e1, e2, e3, _, rfl, ?_⟩
    rw [e4, e]
    refine iteF ⟨es, e, rs, rfl, rfl, rfl, _, rfl, ?_⟩
    rw [eqvI, decide_eq_true (by omega)]
    exact iteF g
  · obtain ⟨n, a, b, e1, e2, e3, e4⟩ := isi2_of tn
    refine ⟨_, rfl, n, a, b, e1, e2, e3, _, rfl, ?_⟩
    rw [e4]
    cases e : q.items with
    | none => exact iteT (iteT fun X' => ⟨by show 2 ≤ lim; decide, g⟩)
    | some es =>
      have := no es e
      refine iteF ⟨es, e, rs, rfl, rfl, rfl, _, rfl, ?_⟩
      rw [eqvI, decide_eq_false (by omega)]
      exact iteT fun X' => ⟨by show 2 ≤ lim; decide, g⟩
abbrev slUs (rs : List D) (x1 : Sl) (i j : Nat) (x4 x5 : Sl) : List Sl := slUr rs x1 (.dat (.int i)) (.dat (.int j)) x4 x5
theorem r_du6 {b : Bool} (h : (b = true ∧ DD.nx ⟨X, slUs rs x1 i j x4 (.dat (.bl b)), k⟩) ∨ (b = false ∧ DD.rt (.tup [.str "BadBonds", pairD' i j]) k)) : t_du6 DD ⟨X, slUs rs x1 i j x4 (.dat (.bl b)), k⟩ := by
  rcases h with ⟨rfl, h⟩ | ⟨rfl, h⟩
  · exact ⟨_, rfl, true, rfl, iteF h⟩
  · exact ⟨_, rfl, false, rfl, iteT fun X' => ⟨_, rfl, _, rfl, by show 2 ≤ lim; decide, by show 2 ≤ lim; decide, h⟩⟩
theorem isInt_of {e : D} (h : e.tname.isSome = true) : ∃ n b1 b2, e.tname = some n ∧ kitB n "int" = some b1 ∧ kitB n "bool" = some b2 ∧ (b1 && !b2) = D.isI e := by
  cases e <;> first
    | (exfalso; cases h; done)
    | exact ⟨_, _, _, rfl, rfl, rfl, rfl⟩
theorem r_du4 {e : D} (h : e.tname.isSome = true) (fin : DD.nx ⟨X, slUs rs x1 i j (.dat e) (.dat (.bl (D.isI e))), k⟩) : t_du4 DD ⟨X, slUs rs x1 i j (.dat e) x5, k⟩ := by
  obtain ⟨n, b1, b2, e1, e2, e3, e4⟩ := isInt_of h
  refine ⟨_, rfl, n, b1, e1, e2, b1, rfl, ?_⟩
  cases b1 with
  | true =>
    refine iteT ⟨_, rfl, n, b2, e1, e3, b2, rfl, ?_⟩
    rw [← e4, Bool.true_and] at fin
    exact fin
  | false =>
    rw [← e4, Bool.false_and] at fin
    exact iteF fin
theorem r_du5 (hr : Rws rs) (hi : i < rs.length) (hj : j < rs.length) (pr : j < i → ∃ y, itD rs j i = .int y ∧ stands rs j i = true) (fin : DD.nx ⟨X, slUs rs x1 i j (.dat (itD rs i j)) (.dat (.bl (stands rs i j))), k⟩) :
    t_du5 DD ⟨X, slUs rs x1 i j (.dat (itD rs i j)) (.dat (.bl (D.isI (itD rs i j)))), k⟩ := by
  refine ⟨_, rfl, _, rfl, rfl, rfl, _, rfl, ?_⟩
  rw [eqvI]
  unfold stands at fin
  cases e : itD rs i j with
  | int z =>
    rw [e] at fin
    dsimp only at fin
    refine iteD (fun g => ?_) fun ng => ?_
    · have g : i = j := by omega
      rw [if_pos g] at fin
      refine ⟨_, rfl, true, rfl, iteT ⟨_, rfl, rfl, rfl, ?_⟩⟩
      rw [eqvI]
      exact fin
    · have ng : ¬ i = j := by omega
      rw [if_neg ng] at fin
      refine ⟨_, rfl, true, rfl, iteT ⟨_, rfl, by show 5 ≤ lim; decide, rfl, _, rfl, by decide, _, rfl, ?_⟩⟩
      have ei : inV (D.int z).v ([D.int 2, .int 3, .int 4, .int 6, .int 0].map D.v) = (lookI kd_WEIGHTS z).isSome := by
        have e := inV_mem (a := z) (ns := [2, 3, 4, 6, 0])
        refine Eq.trans e ?_
        rw [Bool.eq_iff_iff, lookW, decide_eq_true_iff]
        simp only [List.mem_cons, List.not_mem_nil, or_false]
      rw [ei]
      by_cases lt : i < j
      · rw [if_pos lt] at fin
        cases q : (lookI kd_WEIGHTS z).isSome with
        | true =>
          rw [q] at fin
          refine iteT ⟨_, rfl, _, rfl, _, rfl, ?_⟩
          rw [decide_eq_true (by omega)]
          exact iteT fin
        | false =>
          rw [q] at fin
          exact iteF fin
      · rw [if_neg lt] at fin
        obtain ⟨y, e2, s2⟩ := pr (by omega)
        rw [e2] at fin
        dsimp only at fin
        have hy : (lookI kd_WEIGHTS y).isSome = true := by
          unfold stands at s2
          rw [e2] at s2
          dsimp only at s2
          rw [if_neg (by omega), if_pos (by omega)] at s2
          exact s2
        cases q : (lookI kd_WEIGHTS z).isSome with
        | true =>
          obtain ⟨r, es, f1, f2, f3, _⟩ := row_of_it hr hj hi (z := (j : Int)) (y := (i : Int)) rfl rfl
          rw [e2] at f3
          refine iteT ⟨_, rfl, _, rfl, _, rfl, ?_⟩
          rw [decide_eq_false (by omega)]
          refine iteF ⟨_, rfl, rs, rfl, _, rfl, _, _, rfl, f1, _, rfl, es, _, f2, f3, rfl, rfl, ?_⟩
          rw [eqvI]
          exact fin
        | false =>
          have ne : ¬ z = y := fun h => by rw [h, hy] at q; cases q
          rw [decide_eq_false ne] at fin
          exact iteF fin
  | _ =>
    rw [e] at fin
    dsimp only at fin
    first
      | exact iteD (fun _ => ⟨_, rfl, false, rfl, iteF fin⟩) fun _ => ⟨_, rfl, false, rfl, iteF fin⟩
end
theorem r__law_dueB (X : List Addr) (ds : List D) (k : Nat) (R : D → Nat → Prop) (h : sp__law_dueB ds k R) : t__law_dueB (En R) (St0 false 6 ds X k) := by
  obtain ⟨rs, u, rfl, l12, hres, h⟩ := h
  have go : ∀ (hr : Rws rs) (a b : Nat), (∀ i j, ((i < a ∧ j < rs.length) ∨ (i = a ∧ j < b)) → i < rs.length → stands rs i j = true) → ((a = rs.length ∧ R .non k) ∨ (a < rs.length ∧ b < rs.length ∧ stands rs a b = false ∧ R (.tup [.str "BadBonds", pairD' a b]) k)) → t__law_dueB (En R) (St0 false 6 [.lst rs] X k) := fun hr a b st fin => by
    refine r_du1 (x1 := .no) (x2 := .no) (x3 := .no) (x4 := .no) (x5 := .no) (.inr (.inr ⟨hr.1, hr.2.1, ?_⟩))
    refine ⟨_, rfl, rs, rfl, fun m s' => ∃ x1, s' = ⟨X, slUr rs x1 .no .no .no .no, k⟩, ⟨_, rfl⟩, ?_, ?_⟩
    · rintro m q s' hm ⟨x1, rfl⟩
      exact r_du2 (q := q) (.inl ⟨hr.2.2 q (List.mem_of_getElem? hm), _, rfl⟩)
    rintro s' ⟨x1, rfl⟩
    refine ⟨rs, rfl, _, rfl, by omega, by omega, fun i s' => i ≤ a ∧ ∃ x2 x3 x4 x5, s' = ⟨X, slUr rs x1 x2 x3 x4 x5, k⟩, ⟨Nat.zero_le _, _, _, _, _, rfl⟩, ?_, ?_⟩
    · rintro i d s' hd ⟨ia, x2, x3, x4, x5, rfl⟩
      obtain ⟨hi, rfl⟩ := rngD_at hd
      have hi : i < rs.length := by omega
      refine ⟨rs, rfl, _, rfl, by omega, by omega, fun j s' => (i = a → j ≤ b) ∧ ∃ x3 x4 x5, s' = ⟨X, slUr rs x1 (.dat (.int (i : Nat))) x3 x4 x5, k⟩, ⟨fun _ => Nat.zero_le _, _, _, _, by rw [Int.zero_add]; rfl⟩, ?_, ?_⟩
      · rintro j d s' hd ⟨jb, x3, x4, x5, rfl⟩
        obtain ⟨hj, rfl⟩ := rngD_at hd
        have hj : j < rs.length := by omega
        rw [Int.zero_add]
        obtain ⟨q, es, f1, f2, f3, f4⟩ := row_of_it hr hi hj (z := (i : Int)) (y := (j : Int)) rfl rfl
        refine ⟨_, rfl, _, rfl, _, _, rfl, f1, _, rfl, es, _, f2, f3, ?_⟩
        refine r_du4 f4 (r_du5 hr hi hj (fun lt => ?_) (r_du6 ?_))
        · have s := st j i (by
            rcases Nat.lt_or_ge j a with q | q
            · exact .inl ⟨q, hi⟩
            · omega) hj
          obtain ⟨y, e⟩ := stands_int s
          exact ⟨y, e, s⟩
        by_cases z : i = a ∧ j = b
        · obtain ⟨rfl, rfl⟩ := z
          rcases fin with ⟨e, _⟩ | ⟨_, _, e, q⟩
          · omega
          · exact .inr ⟨e, q⟩
        · exact .inl ⟨st i j (by omega) hi, fun q => by have := jb q; omega, _, _, _, rfl⟩
      · rintro s' ⟨jb, x3, x4, x5, rfl⟩
        rw [rngD_len] at jb
        refine ⟨?_, _, _, _, _, rfl⟩
        have : i ≠ a := fun q => by
          have j2 := jb q
          rcases fin with ⟨e, _⟩ | ⟨_, e, _⟩
          · omega
          · omega
        omega
    · rintro s' ⟨ia, x2, x3, x4, x5, rfl⟩
      rw [rngD_len] at ia
      rcases fin with ⟨e, q⟩ | ⟨e, _⟩
      · exact fun X' => q
      · omega
  rcases hres with ⟨e, hb | ⟨rs', hd, hr, a, b, ha, hb, hs, hn, he⟩, hu⟩ | ⟨T, hm, ht, rfl⟩
  · rcases hb with ⟨⟨tn, g⟩, rfl⟩ | ⟨rs', hd, l, rfl⟩ | ⟨rs', i, q, hd, l1, l6, hj, hq, nq, rfl⟩
    · rcases hu with ⟨p, e, _, rfl⟩ | ⟨e, rfl⟩
      · cases e
        rcases g with g | g
        · cases g
        · cases g
          exact r_du1 (x1 := .no) (x2 := .no) (x3 := .no) (x4 := .no) (x5 := .no) (.inl ⟨rfl, h⟩)
      · cases e
    · cases hd
      rcases hu with ⟨p, e, _, rfl⟩ | ⟨e, rfl⟩
      · cases e
      · exact r_du1 (x1 := .no) (x2 := .no) (x3 := .no) (x4 := .no) (x5 := .no) (.inr (.inl ⟨l, h⟩))
    · cases hd
      rcases hu with ⟨p, e, _, rfl⟩ | ⟨e, rfl⟩
      · cases e
        refine r_du1 (x1 := .no) (x2 := .no) (x3 := .no) (x4 := .no) (x5 := .no) (.inr (.inr ⟨l1, l6, ?_⟩))
        refine ⟨_, rfl, rs, rfl, fun m s' => m ≤ i ∧ ∃ x1, s' = ⟨X, slUr rs x1 .no .no .no .no, k⟩, ⟨Nat.zero_le _, _, rfl⟩, ?_, ?_⟩
        · rintro m q' s' hm ⟨mi, x1, rfl⟩
          refine r_du2 (q := q') ?_
          by_cases z : m = i
          · subst z
            rw [hq] at hm; cases hm
            exact .inr ⟨nq, h⟩
          · obtain ⟨r, e1, e2⟩ := hj m (by omega)
            rw [e1] at hm; cases hm
            exact .inl ⟨e2, by omega, _, rfl⟩
        · rintro s' ⟨mi, _⟩
          have := (List.getElem?_eq_some_iff.mp hq).1
          omega
      · cases e
  · cases hd
    rcases hu with ⟨p, e, _, rfl⟩ | ⟨e, rfl⟩
    · rw [he] at e
      cases e
      exact go hr a b (fun i j hij _ => hs i j hij) (.inr ⟨ha, hb, hn, h⟩)
    · rw [he] at e
      cases e
  · obtain ⟨rs', hd, hl, hrow⟩ := hm
    have er : rs' = rs := by
      rcases hd with hd | hd
      · cases hd; rfl
      · cases hd
    subst er
    have row : ∀ i, i < rs'.length → ∃ q, rs'[i]? = some q ∧ q.items = some ((T.getD i []).map D.int) := fun i hi => by
      obtain ⟨q, h1, h2⟩ := hrow i (by omega)
      exact ⟨q, h1, by rcases h2 with rfl | rfl <;> rfl⟩
    have hr : Rws rs' := ⟨by rw [hl]; exact ht.lo, by rw [hl]; exact ht.hi, fun q hq => by
      obtain ⟨i, hi, e⟩ := List.getElem_of_mem hq
      obtain ⟨q', h1, h2⟩ := row i hi
      rw [List.getElem?_eq_getElem hi, e] at h1
      cases h1
      refine ⟨_, h2, by rw [List.length_map, hl]; exact ht.sq i (by omega), fun x hx => ?_⟩
      obtain ⟨z, _, rfl⟩ := List.mem_map.mp hx
      rfl⟩
    have it : ∀ i j, i < rs'.length → j < rs'.length → itD rs' i j = .int (at2 T i j) := fun i j hi hj => by
      obtain ⟨q', h1, h2⟩ := row i hi
      have e0 : rs'.getD i .non = q' := by rw [List.getD_eq_getElem?_getD, h1]; rfl
      unfold itD at2
      rw [e0, h2]
      show ((T.getD i []).map D.int).getD j .non = _
      rw [List.getD_eq_getElem?_getD, List.getElem?_map, getD_get (d := 0) (by rw [ht.sq i (by omega)]; omega)]; rfl
    refine go hr rs'.length 0 (fun i j hij hi => ?_) (.inl ⟨rfl, h⟩)
    have hj : j < rs'.length := by omega
    unfold stands
    rw [it i j hi hj, it j i hj hi]
    dsimp only
    by_cases e : i = j
    · subst e
      rw [if_pos rfl, ht.dg i (by omega)]; rfl
    · rw [if_neg e]
      by_cases l : i < j
      · rw [if_pos l]
        exact lookW.mpr (ht.of i j (by omega) (by omega) e)
      · rw [if_neg l, ht.sy i j (by omega) (by omega)]
        exact decide_eq_true rfl
end BW
set_option maxHeartbeats 1000000
namespace BW
open PySem L2 DL
def sp__law_spoiled01 : DSp := fun ds k R => ∃ T, ds = [tM T] ∧ Tab T ∧ k < 90000000000 ∧ ∀ d k', OkB d → k ≤ k' → k' ≤ k + 20 → R d k'
abbrev t_so1 : DS := (dSetO 2 (dLc (iTp (dVar 1)) (dgN 8) dY (dFr (dLstN 8)) [8]))
abbrev t_so2 : DS := (dPar2 3 4 (dxD (dLenN 2) (dxD (dCallM 0 sp__law_draw (dCons (dC (.int 8)) dNil)) dxN)))
abbrev t_so3 : DS := (dIfS (dTB (dOp oEq (dVar 4) (dC (.int 0)))) (dRet (dOp oIx (dFr (dLs (dCons (dSl (dVar 2) dON (dOS (dC (.int (-1))))) (dCons (dOp oAdd (dVar 2) (dFr (dLs (dCons (dOp oMul (dFr (dLs (dCons (dC (.int 1)) dNil))) (dVar 3)) dNil)))) (dCons (dOp oAdd (dVar 2) (dVar 2)) (dCons (dFr (dLs dNil)) (dCons (dOp oMul (dFr (dLs (dCons (dIxN 2 (dC (.int 0))) dNil))) (dC (.int 7))) (dCons (dOp oMul (dFr (dLs (dCons (dC .non) dNil))) (dVar 3)) dNil)))))))) (dCallM 0 sp__law_draw (dCons (dC (.int 6)) dNil)))) dNext)
abbrev t_so4 : DS := (dIfS (dTB (dOp oEq (dVar 4) (dC (.int 1)))) (dSeq (dSet 5 (dCallM 0 sp__law_draw (dCons (dVar 3) dNil)))
  (dSeq (dSix 2 (dVar 5) (dOp oIx (dFr (dLs (dCons (dSl (dIxN 2 (dVar 5)) dON (dOS (dC (.int (-1))))) (dCons (dOp oAdd (dIxN 2 (dVar 5)) (dFr (dLs (dCons (dC (.int 2)) dNil)))) (dCons (dC .non) (dCons (dC (.str "1")) (dCons (dC (.int 5)) (dCons (dTup dNil) (dCons (dNewD) dNil))))))))) (dCallM 0 sp__law_draw (dCons (dC (.int 7)) dNil))))
  (dRet (dVar 2)))) dNext)
abbrev t_so5 : DS := (dPar2 5 7 (dxD (dCallM 0 sp__law_draw (dCons (dVar 3) dNil)) (dxD (dCallM 0 sp__law_draw (dCons (dVar 3) dNil)) dxN)))
abbrev t_so6 : DS := (dMut 2 (dVar 5) (dVar 7) (dOp oIx (dFr (dLs (dCons (dC (.int 1)) (dCons (dC (.int 2)) (dCons (dC (.int 3)) (dCons (dC (.int 4)) (dCons (dC (.int 5)) (dCons (dC (.int 6)) (dCons (dC (.int 0)) (dCons (dC (.int 7)) (dCons (dOp oSub (dC (.int 0)) (dC (.int 2))) (dCons (dC (.bl true)) (dCons (dC .non) (dCons (dC (.str "3")) (dCons (dTup (dCons (dC (.int 3)) dNil)) (dCons (dOp oPow (dC (.int 10)) (dC (.int 30))) dNil)))))))))))))))) (dCallM 0 sp__law_draw (dCons (dC (.int 14)) dNil))))
abbrev t__law_spoiled01 : DS := (dSeq t_so1
  (dSeq t_so2
  (dSeq t_so3
  (dSeq t_so4
  (dSeq (dFor (iR1 (dOp oAdd (dC (.int 1)) (dCallM 0 sp__law_draw (dCons (dC (.int 2)) dNil)))) (dgN 6) (dSeq t_so5
  t_so6))
  (dRet (dVar 2)))))))
def RowL (n : Nat) (q : D) : Prop := ∃ es, q = .lst es ∧ es.length = n ∧ ∀ e ∈ es, ItB e
theorem nolA_of : ∀ {es : List D}, (∀ e ∈ es, ItB e) → nolA es = true
  | [], _ => rfl
  | e :: r, h => Bool.and_eq_true_iff.mpr ⟨(h e List.mem_cons_self).2, nolA_of fun x hx => h x (List.mem_cons_of_mem _ hx)⟩
theorem RowL.b {n : Nat} {q : D} (h : RowL n q) (hn : n ≤ 7) : RowB q := by
  obtain ⟨es, rfl, l, he⟩ := h
  exact ⟨rfl, fun es' e => by cases e; exact ⟨by omega, he⟩⟩
theorem row_mu {n : Nat} {es : List D} (h : RowL n (.lst es)) {q q' : D} (hq : RowL n q) (m : mu es q q') : RowL n q' := by
  obtain ⟨xs, rfl, l, hx⟩ := hq
  rcases m with rfl | ⟨ys, rfl, m⟩
  · exact h
  · have := muA_nol m (nolA_of hx)
    subst this
    exact ⟨_, rfl, l, hx⟩
theorem rows_mu {n : Nat} {es : List D} (h : RowL n (.lst es)) : ∀ {qs qs' : List D}, (∀ q ∈ qs, RowL n q) → muA es qs qs' → (∀ q ∈ qs', RowL n q) ∧ qs'.length = qs.length
  | [], _, _, m => by
    have m : _ = [] := m
    subst m
    exact ⟨fun q hq => (nomatch hq), rfl⟩
  | q :: r, _, hq, ⟨y, s, e, m1, m2⟩ => by
    subst e
    obtain ⟨h1, h2⟩ := rows_mu h (fun x hx => hq x (List.mem_cons_of_mem _ hx)) m2
    refine ⟨fun x hx => ?_, congrArg (· + 1) h2⟩
    rcases List.mem_cons.mp hx with rfl | hx
    · exact row_mu h (hq q List.mem_cons_self) m1
    · exact h1 x hx
abbrev slSo (T : Mat) (p : Addr) (qs : List D) (x3 x4 x5 x6 x7 x8 : Sl) : List Sl := [.mst, .dat (tM T), .own p qs, x3, x4, x5, x6, x7, x8]
theorem it_int (i : Int) : ItB (.int i) := ⟨rfl, rfl⟩
theorem row_ints (r : List Int) : RowL r.length (lI r) := ⟨r.map D.int, rfl, List.length_map .., fun e he => by
  obtain ⟨z, _, rfl⟩ := List.mem_map.mp he
  exact it_int z⟩
section
variable {T : Mat} {p : Addr} {qs : List D} {X : List Addr} {k n : Nat} {x2 x3 x4 x5 x6 x7 x8 : Sl} {DD : DEnds}
theorem r_so1 (ht : Tab T) (fin : ∀ p X' x8, DD.nx ⟨X', slSo T p (T.map lI) x3 x4 x5 x6 x7 x8, k⟩) : t_so1 DD ⟨X, [.mst, .dat (tM T), x2, x3, x4, x5, x6, x7, x8], k⟩ := by
  have lT : (T.map tI).length = T.length := List.length_map ..
  have hT := ht.hi
  refine ⟨_, rfl, _, rfl, by rw [lT]; exact l10k (by omega), fun P hP => ⟨fun j acc k' => k' = k ∧ acc = (T.take j).map lI, ⟨rfl, rfl⟩, ?_, ?_⟩⟩
  · rintro j e acc k' he ⟨rfl, rfl⟩ _
    rw [List.getElem?_map] at he
    obtain ⟨r, hr, rfl⟩ := Option.map_eq_some_iff.mp he
    refine iteT ⟨_, rfl, rfl, ?_⟩
    rw [List.take_succ, hr, List.map_append]; rfl
  · rintro acc k' ⟨rfl, rfl⟩ _
    rw [lT, List.take_length]
    exact fun p hp => fin p _ _
theorem r_so2 (hq : qs.length = n) (hk : k < 95000000000) (fin : ∀ z : Int, DD.nx ⟨X, slSo T p qs (.dat (.int n)) (.dat (.int z)) x5 x6 x7 x8, k + 1⟩) : t_so2 DD ⟨X, slSo T p qs x3 x4 x5 x6 x7 x8, k⟩ := by
  subst hq
  exact ⟨_, rfl, rfl, 8, rfl, by decide, by decide, by show k < _; omega, fun z z0 z1 => fin z⟩
theorem mem6 {α : Type} {a b c d e f x : α} (h : x ∈ [a, b, c, d, e, f]) : x = a ∨ x = b ∨ x = c ∨ x = d ∨ x = e ∨ x = f := by
  simp only [List.mem_cons, List.not_mem_nil, or_false] at h
  exact h
theorem mem_rep {a x : D} {n : Nat} (h : x ∈ (List.replicate n [a]).flatten) : x = a := by
  obtain ⟨l, h1, h2⟩ := List.mem_flatten.mp h
  rw [(List.mem_replicate.mp h1).2] at h2
  exact List.mem_singleton.mp h2
theorem len_rep (a : D) (n : Nat) : (List.replicate n [a]).flatten.length = n := by
  induction n with
  | zero => rfl
  | succ n ih => rw [List.replicate_succ, List.flatten_cons, List.length_append, ih]; show 1 + n = n + 1; omega
theorem r_so3 {z : Int} (hq : qs.length = n) (n1 : 1 ≤ n) (n6 : n ≤ 6) (hr : ∀ q ∈ qs, RowL n q) (hk : k < 95000000000) (ret : ∀ d, OkB d → DD.rt d (k + 1)) (fin : DD.nx ⟨X, slSo T p qs (.dat (.int n)) (.dat (.int z)) x5 x6 x7 x8, k⟩) : t_so3 DD ⟨X, slSo T p qs (.dat (.int n)) (.dat (.int z)) x5 x6 x7 x8, k⟩ := by
  refine ⟨_, rfl, rfl, rfl, _, rfl, ?_⟩
  rw [eqvI]
  refine iteD (fun _ => ?_) fun _ => fin
  intro X'
  obtain ⟨q0, hq0⟩ : ∃ q, qs[0]? = some q := ⟨_, List.getElem?_eq_getElem (by omega)⟩
  have rb : ∀ q ∈ qs, RowB q := fun q h => (hr q h).b (by omega)
  have c1 := cut_le qs none (some (-1))
  have one1 : RowB (.lst (List.replicate (n : Int).toNat [D.int 1]).flatten) := ⟨rfl, fun es e => by
    cases e
    refine ⟨by rw [len_rep]; omega, fun e he => ?_⟩
    rw [mem_rep he]; exact it_int 1⟩
  have nonB : RowB .non := ⟨rfl, fun es e => nomatch e⟩
  refine ⟨_, rfl, _, rfl, ?_⟩
  refine ⟨_, rfl, by show 1 ≤ lim; decide, _, rfl, by omega, by omega, by show 1 * (n : Int).toNat ≤ lim; exact l10k (by omega), by show 1 ≤ lim; decide, by show qs.length + 1 ≤ lim; exact l10k (by omega), ?_⟩
  refine ⟨_, rfl, _, rfl, by show qs.length + qs.length ≤ lim; exact l10k (by omega), by show 0 ≤ lim; decide, ?_⟩
  refine ⟨qs, rfl, 0, q0, rfl, atI_nat (j := 0) hq0, by show 1 ≤ lim; decide, by decide, by decide, by show 1 * 7 ≤ lim; decide, ?_⟩
  refine ⟨by show 1 ≤ lim; decide, _, rfl, by omega, by omega, by show 1 * (n : Int).toNat ≤ lim; exact l10k (by omega), by show 6 ≤ lim; decide, ?_⟩
  refine ⟨rfl, 6, rfl, by decide, by decide, by show k < _; omega, fun u u0 u1 => ?_⟩
  obtain ⟨o, h1, h2⟩ := get_mem (xs := [D.lst (cutD qs none (some (-1))), .lst (qs ++ [.lst (List.replicate (n : Int).toNat [D.int 1]).flatten]), .lst (qs ++ qs), .lst [], .lst (List.replicate (7 : Int).toNat [q0]).flatten, .lst (List.replicate (n : Int).toNat [D.non]).flatten]) (m := 6) u0 u1 rfl
  refine ⟨_, _, rfl, h1, ret o ?_⟩
  rcases mem6 h2 with rfl | rfl | rfl | rfl | rfl | rfl
  · refine ⟨_, rfl, by omega, fun q hq' => rb q ?_⟩
    exact List.mem_of_mem_drop (List.mem_of_mem_take hq')
  · refine ⟨_, rfl, by rw [List.length_append]; show qs.length + 1 ≤ 12; omega, fun q hq' => ?_⟩
    rcases List.mem_append.mp hq' with h | h
    · exact rb q h
    · rw [List.mem_singleton.mp h]; exact one1
  · refine ⟨_, rfl, by rw [List.length_append]; omega, fun q hq' => ?_⟩
    rcases List.mem_append.mp hq' with h | h
    · exact rb q h
    · exact rb q h
  · exact ⟨[], rfl, by decide, fun q h => nomatch h⟩
  · refine ⟨_, rfl, by rw [len_rep]; decide, fun q hq' => ?_⟩
    rw [mem_rep hq']
    exact rb q0 (List.mem_of_getElem? hq0)
  · refine ⟨_, rfl, by rw [len_rep]; omega, fun q hq' => ?_⟩
    rw [mem_rep hq']
    exact nonB
theorem six_at {p : Addr} {qs : List D} {i : Nat} {t u : DE} {DD : DEnds} {s : S} (h0 : s.sl[i]? = some (.own p qs)) (h : u s fun d k => t (s.at k) fun j k' => ∃ z n, j = .int z ∧ ixN qs.length z = some n ∧ DD.nx ((s.put i (.own p (qs.set n d))).at k')) : dSix i t u DD s := ⟨p, qs, h0, h⟩
theorem mem7 {α : Type} {a b c d e f g x : α} (h : x ∈ [a, b, c, d, e, f, g]) : x = a ∨ x = b ∨ x = c ∨ x = d ∨ x = e ∨ x = f ∨ x = g := by
  simp only [List.mem_cons, List.not_mem_nil, or_false] at h
  exact h
theorem r_so4 {z : Int} (hq : qs.length = n) (n1 : 1 ≤ n) (n6 : n ≤ 6) (hr : ∀ q ∈ qs, RowL n q) (hk : k < 95000000000) (ret : ∀ d, OkB d → DD.rt d (k + 2)) (fin : DD.nx ⟨X, slSo T p qs (.dat (.int n)) (.dat (.int z)) x5 x6 x7 x8, k⟩) : t_so4 DD ⟨X, slSo T p qs (.dat (.int n)) (.dat (.int z)) x5 x6 x7 x8, k⟩ := by
  refine ⟨_, rfl, rfl, rfl, _, rfl, ?_⟩
  rw [eqvI]
  refine iteD (fun _ => ?_) fun _ => fin
  refine ⟨rfl, _, rfl, (n : Int), rfl, by omega, by refine Int.lt_of_le_of_lt (b := 700) (by omega) (by decide), by show k < _; omega, fun a a0 a1 => ?_⟩
  obtain ⟨a, rfl⟩ : ∃ m : Nat, a = m := ⟨a.toNat, by omega⟩
  have al : a < qs.length := by omega
  obtain ⟨q0, hq0⟩ : ∃ q, qs[a]? = some q := ⟨_, List.getElem?_eq_getElem al⟩
  obtain ⟨es, rfl, le, he⟩ := hr q0 (List.mem_of_getElem? hq0)
  have c1 := cut_le es none (some (-1))
  refine six_at (p := p) (qs := qs) rfl ?_
  refine ⟨_, rfl, _, rfl, (a : Int), _, rfl, atI_nat hq0, _, rfl, ?_⟩
  refine ⟨_, rfl, _, rfl, (a : Int), _, rfl, atI_nat hq0, by show 1 ≤ lim; decide, by show es.length + 1 ≤ lim; exact l10k (by omega), ?_⟩
  refine ⟨by show 0 ≤ lim; decide, by show 7 ≤ lim; decide, rfl, 7, rfl, by decide, by decide, by show k + 1 < _; omega, fun u u0 u1 => ?_⟩
  have hes : ∀ e ∈ es, ItB e := he
  obtain ⟨o, h1, h2⟩ := get_mem (xs := [D.lst (cutD es none (some (-1))), .lst (es ++ [.int 2]), .non, .str "1", .int 5, .tup [], .dic]) (m := 7) u0 u1 rfl
  refine ⟨_, _, rfl, h1, _, rfl, (a : Int), a, rfl, ixN_nat al, fun X' => ⟨_, rfl, ?_⟩⟩
  show DD.rt (.lst (qs.set a o)) (k + 2)
  have ro : RowB o := by
    rcases mem7 h2 with rfl | rfl | rfl | rfl | rfl | rfl | rfl
    · exact ⟨rfl, fun es' e => by cases e; exact ⟨by omega, fun x hx => hes x (List.mem_of_mem_drop (List.mem_of_mem_take hx))⟩⟩
    · refine ⟨rfl, fun es' e => ?_⟩
      cases e
      refine ⟨by rw [List.length_append]; show es.length + 1 ≤ 8; omega, fun x hx => ?_⟩
      rcases List.mem_append.mp hx with h | h
      · exact hes x h
      · rw [List.mem_singleton.mp h]; exact it_int 2
    · exact ⟨rfl, fun es e => nomatch e⟩
    · exact ⟨rfl, fun es e => nomatch e⟩
    · exact ⟨rfl, fun es e => nomatch e⟩
    · exact ⟨rfl, fun es e => by cases e; exact ⟨by decide, fun _ h => nomatch h⟩⟩
    · exact ⟨rfl, fun es e => nomatch e⟩
  refine ret _ ⟨_, rfl, by rw [List.length_set]; omega, fun q h => ?_⟩
  rcases List.mem_or_eq_of_mem_set h with h | rfl
  · exact (hr q h).b (by omega)
  · exact ro
theorem r_so5 {d : D} (hq : qs.length = n) (n1 : 1 ≤ n) (n6 : n ≤ 6) (hk : k < 95000000000) (fin : ∀ a b : Nat, a < n → b < n → DD.nx ⟨X, slSo T p qs (.dat (.int n)) x4 (.dat (.int a)) x6 (.dat (.int b)) x8, k + 2⟩) : t_so5 DD ⟨X, slSo T p qs (.dat (.int n)) x4 x5 x6 x7 x8, k⟩ := by
  refine ⟨rfl, _, rfl, (n : Int), rfl, by omega, by refine Int.lt_of_le_of_lt (b := 700) (by omega) (by decide), by show k < _; omega, fun a a0 a1 => ?_⟩
  refine ⟨rfl, _, rfl, (n : Int), rfl, by omega, by refine Int.lt_of_le_of_lt (b := 700) (by omega) (by decide), by show k + 1 < _; omega, fun b b0 b1 => ?_⟩
  obtain ⟨a, rfl⟩ : ∃ m : Nat, a = m := ⟨a.toNat, by omega⟩
  obtain ⟨b, rfl⟩ : ∃ m : Nat, b = m := ⟨b.toNat, by omega⟩
  exact fin a b (by omega) (by omega)
def junk : List D := [.int 1, .int 2, .int 3, .int 4, .int 5, .int 6, .int 0, .int 7, .int (-2), .bl true, .non, .str "3", .tup [.int 3], .int (10 ^ 30)]
theorem junk_it {o : D} (h : o ∈ junk) : ItB o := by
  simp only [junk, List.mem_cons, List.not_mem_nil, or_false] at h
  rcases h with rfl | rfl | rfl | rfl | rfl | rfl | rfl | rfl | rfl | rfl | rfl | rfl | rfl | rfl <;> exact ⟨by decide, rfl⟩
theorem rowlen {T : Mat} (ht : Tab T) {r : List Int} (hm : r ∈ T) : r.length = T.length := by
  obtain ⟨i, hi, rfl⟩ := List.mem_iff_getElem.mp hm
  have := ht.sq i hi
  rw [List.getD_eq_getElem?_getD, List.getElem?_eq_getElem hi] at this
  exact this
theorem nolA_map {α : Type} {f : α → D} (h : ∀ a, D.nol (f a) = true) : ∀ l : List α, nolA (l.map f) = true
  | [] => rfl
  | a :: r => Bool.and_eq_true_iff.mpr ⟨h a, nolA_map h r⟩
theorem nol_tI (r : List Int) : D.nol (tI r) = true := nolA_map (fun _ => rfl) r
theorem nol_tM (T : Mat) : D.nol (tM T) = true := nolA_map nol_tI T
theorem r_so6 {a b : Nat} {z : Int} (hq : qs.length = n) (n6 : n ≤ 6) (hr : ∀ q ∈ qs, RowL n q) (ha : a < n) (hb : b < n) (hk : k < 95000000000) (fin : ∀ qs' y6 y8, qs'.length = n → (∀ q ∈ qs', RowL n q) → DD.nx ⟨X, slSo T p qs' (.dat (.int n)) (.dat (.int z)) (.dat (.int a)) y6 (.dat (.int b)) y8, k + 1⟩) : t_so6 DD ⟨X, slSo T p qs (.dat (.int n)) (.dat (.int z)) (.dat (.int a)) x6 (.dat (.int b)) x8, k⟩ := by
  obtain ⟨q0, hq0⟩ : ∃ q, qs[a]? = some q := ⟨_, List.getElem?_eq_getElem (by omega)⟩
  obtain ⟨es, rfl, le, he⟩ := hr q0 (List.mem_of_getElem? hq0)
  refine ⟨by show 1 ≤ lim; decide, ⟨by decide, by decide, by decide⟩, by show 14 ≤ lim; decide, rfl, 14, rfl, by decide, by decide, by show k < _; omega, fun u u0 u1 => ?_⟩
  obtain ⟨o, h1, h2⟩ := get_mem (xs := junk) (m := 14) u0 u1 rfl
  refine ⟨_, _, rfl, h1, (junk_it h2).2, _, rfl, _, rfl, (a : Int), _, rfl, atI_nat hq0, es, rfl, nolA_of he, _, rfl, (b : Int), b, rfl, ixN_nat (by omega), fun sl' m => ?_⟩
  obtain ⟨_, _, rfl, rfl, _, _, rfl, ⟨_, rfl, hT⟩, _, _, rfl, ⟨qs', rfl, hQ⟩, _, _, rfl, ⟨_, rfl, hn⟩, _, _, rfl, ⟨_, rfl, hz⟩, _, _, rfl, ⟨_, rfl, ha'⟩, y6, _, rfl, _, _, _, rfl, ⟨_, rfl, hb'⟩, y8, _, rfl, _, rfl⟩ := m
  have hT := mu_nol hT (nol_tM T)
  have hn : _ = D.int n := hn
  have hz : _ = D.int z := hz
  have ha' : _ = D.int a := ha'
  have hb' : _ = D.int b := hb'
  subst hT hn hz ha' hb'
  have hset : RowL n (.lst (es.set b o)) := ⟨_, rfl, by rw [List.length_set]; exact le, fun e h => by
    rcases List.mem_or_eq_of_mem_set h with h | rfl
    · exact he e h
    · exact junk_it h2⟩
  obtain ⟨g1, g2⟩ := rows_mu hset hr hQ
  exact fin qs' y6 y8 (by omega) g1
end
theorem r__law_spoiled01 (X : List Addr) (ds : List D) (k : Nat) (R : D → Nat → Prop) (h : sp__law_spoiled01 ds k R) : t__law_spoiled01 (En R) (St0 true 9 ds X k) := by
  obtain ⟨T, rfl, ht, hk, h⟩ := h
  have lo := ht.lo
  have hi := ht.hi
  have lT : (T.map lI).length = T.length := List.length_map ..
  have hr : ∀ q ∈ T.map lI, RowL T.length q := fun q hq => by
    obtain ⟨r, hm, rfl⟩ := List.mem_map.mp hq
    have := row_ints r
    rw [rowlen ht hm] at this
    exact this
  refine r_so1 (k := k) ht fun p X' x8 => r_so2 (k := k) lT (by omega) fun z => r_so3 (k := k + 1) lT (by omega) (by omega) hr (by omega) (fun d hd => h d _ hd (by omega) (by omega)) ?_
  refine r_so4 (k := k + 1) lT (by omega) (by omega) hr (by omega) (fun d hd => h d _ hd (by omega) (by omega)) ?_
  refine ⟨rfl, 2, rfl, by decide, by decide, by show k + 1 < _; omega, fun m m0 m1 => ?_⟩
  refine ⟨1 + m, rfl, by omega, by omega, fun i s' => ∃ (qs : List D) (x5 x6 x7 x8 : Sl) (k' : Nat), s' = ⟨X', slSo T p qs (.dat (.int T.length)) (.dat (.int z)) x5 x6 x7 x8, k'⟩ ∧ qs.length = T.length ∧ (∀ q ∈ qs, RowL T.length q) ∧ k ≤ k' ∧ k' ≤ k + 2 + 3 * i, ⟨T.map lI, _, _, _, _, k + 2, rfl, lT, hr, by omega, by omega⟩, ?_, ?_⟩
  · rintro i d s' hd ⟨qs, x5, x6, x7, x8, k', rfl, lq, hq, k1, k2⟩
    obtain ⟨hi, rfl⟩ := rngD_at hd
    refine r_so5 (d := .non) (k := k') lq (by omega) (by omega) (by omega) fun a b ha hb => r_so6 (k := k' + 2) lq (by omega) hq ha hb (by omega) fun qs' y6 y8 lq' hq' => ?_
    exact ⟨qs', _, _, _, _, k' + 3, rfl, lq', hq', by omega, by omega⟩
  · rintro s' ⟨qs, x5, x6, x7, x8, k', rfl, lq, hq, k1, k2⟩
    rw [rngD_len] at k2
    refine fun X' => ⟨_, rfl, h _ k' ⟨qs, rfl, by omega, fun q h => (hq q h).b (by omega)⟩ (by omega) (by omega)⟩
end BW
set_option maxHeartbeats 1000000
namespace BW
open PySem L2 DL TL
section
variable {M : Mat} {X : List Addr} {k : Nat} {x3 x4 x5 : Sl} {DD : DEnds} {i j : Nat}
theorem Sq.row {M : Mat} (h : Sq M) {i j : Nat} (hi : i < M.length) (hj : j < M.length) : atI (M.map lI) (i : Int) = some (lI (M.getD i [])) ∧ atI ((M.getD i []).map D.int) (j : Int) = some (.int (at2 M i j)) := by
  refine ⟨atI_nat ?_, atI_nat ?_⟩
  · rw [List.getElem?_map, getD_get (d := []) hi]; rfl
  · rw [List.getElem?_map, getD_get (d := 0) (by rw [h.sq i hi]; exact hj)]; rfl
end
end BW
set_option maxHeartbeats 1000000
namespace BW
open PySem L2 DL
section
variable {BC : Addr} {DD : DEnds} {T : Mat} {w c u : List Int} {X : List Addr} {k : Nat} {x2 x3 x4 x5 x6 x7 x8 x9 x10 x11 x12 x13 : Sl}
theorem f1 : ptf T17 [1] [2, 1, 2] = [1, 2] ∧ ptr T17 [1] [2, 1, 2] = [1] := by decide +kernel
theorem f2 : pbf T17 [1] [2, 1, 2] = [2, 1] ∧ pbr T17 [1] [2, 1, 2] = [1] := by decide +kernel
theorem f3 : ptf T17 [] [1, 2] = [1, 2] ∧ ptr T17 [] [1, 2] = [] := by decide +kernel
theorem f4 : ptf T17 [1, 2] [1, 2] = [] ∧ ptr T17 [1, 2] [1, 2] = [1, 2] := by decide +kernel
end
end BW
set_option maxHeartbeats 1000000
namespace BW
open PySem L2 DL TL
abbrev dueT (i : Nat) : D := .tup [.str "text", .int i]
end BW
set_option maxHeartbeats 1000000
namespace BW
open PySem L2 DL TL
def BTo (L : List Nat) (w e : Nat) (R : D → Prop) : Prop := (∀ j, j < e → j < whN w ∧ fitN w L j) ∧ ((tbad w L e ∧ R (dueT e)) ∨ (e = whN w ∧ e = L.length))
theorem BTo.stop {L : List Nat} {w e : Nat} {R : D → Prop} (h : BTo L w e R) (hw : e < whN w) : R (dueT e) ∧ ∀ c, L[e]? = some c → tf w e c = false := by
  rcases h.2 with ⟨⟨c, e1, e2⟩ | ⟨e1, _⟩, q⟩ | ⟨e1, _⟩
  · refine ⟨q, fun c2 h2 => ?_⟩
    rw [e1] at h2; cases h2
    exact e2.resolve_left (by omega)
  · refine ⟨q, fun c2 h2 => ?_⟩
    rw [e1, List.getElem?_eq_none (Nat.le_refl _)] at h2; cases h2
  · omega
end BW
set_option maxHeartbeats 1000000
namespace BW
open PySem L2 DL TL
theorem tab_dg {T : Mat} (ht : Tab T) : DgT T ∧ ∀ r ∈ T, ∀ i ∈ r, i = 0 ∨ i = 1 ∨ i = 2 ∨ i = 3 ∨ i = 4 ∨ i = 6 := by
  have key : ∀ r ∈ T, r.length = T.length ∧ ∀ i ∈ r, i = 0 ∨ i = 1 ∨ i = 2 ∨ i = 3 ∨ i = 4 ∨ i = 6 := fun r hr => by
    obtain ⟨a, ha, e⟩ := List.getElem_of_mem hr
    have ea : T.getD a [] = r := by rw [List.getD_eq_getElem?_getD, List.getElem?_eq_getElem ha, e]; rfl
    have hs := ht.sq a ha
    rw [ea] at hs
    refine ⟨hs, fun i hi => ?_⟩
    obtain ⟨b, hb, e2⟩ := List.getElem_of_mem hi
    have eb : at2 T a b = i := by
      unfold at2
      rw [ea, List.getD_eq_getElem?_getD, List.getElem?_eq_getElem hb, e2]; rfl
    by_cases c : a = b
    · subst c
      have := ht.dg a ha
      omega
    · have := ht.of a b ha (by omega) c
      omega
  refine ⟨⟨fun e => ?_, ht.hi, fun r hr => ⟨fun i hi => ?_, (key r hr).1⟩⟩, fun r hr => (key r hr).2⟩
  · have := ht.lo
    rw [e] at this
    exact absurd this (by decide)
  · have := (key r hr).2 i hi
    omega
end BW
set_option maxHeartbeats 1000000
namespace BW
open PySem L2 DL
open PySem.W (dataLe AllAlike Sortable)
theorem many_ok {B : Nat} : ∀ {ds : List D}, (∀ d ∈ ds, d.plo = true ∧ d.shw = true ∧ d.py.depth ≤ 10 ∧ d.wg ≤ B) → ploA ds = true ∧ shwA ds = true ∧ PyData.depthAll (pyA ds) ≤ 10 ∧ wgA ds ≤ (B + 2) * ds.length
  | [], _ => ⟨rfl, rfl, Nat.zero_le _, Nat.zero_le _⟩
  | d :: r, h => by
    obtain ⟨a, b, c, e⟩ := many_ok (ds := r) fun x hx => h x (List.mem_cons_of_mem _ hx)
    obtain ⟨a1, b1, c1, e1⟩ := h d List.mem_cons_self
    refine ⟨?_, ?_, ?_, ?_⟩
    · show (d.plo && ploA r) = true
      rw [a1, a]; rfl
    · show (d.shw && shwA r) = true
      rw [b1, b]; rfl
    · show max d.py.depth (PyData.depthAll (pyA r)) ≤ 10
      omega
    · show d.wg + 2 + wgA r ≤ (B + 2) * (r.length + 1)
      rw [Nat.mul_add]
      omega
theorem plo_ints : ∀ w : List Int, ploA (w.map D.int) = true
  | [] => rfl
  | _ :: r => plo_ints r
end BW
namespace DL
open PySem L2
section
variable {X : Cx} {c : C} {k j : Nat} {C : Addr} {sp : DSp} {pos p : Pos}
theorem ptd_neI (hK : c.K = X.K) (F : EqD X.prog X.w X.K X.mg X.base k C sp) (hr : Room j X.A) (hk : k + 1 ≤ j) {a b : Expr} {ta tb : DE} (ha : PE X a (LE c ta)) (hb : PE X b (LE c tb)) (hm : behindInMarks .NotEq b = false := by first | exact nomark _ | rfl) :
    PT X (.Compare a [.NotEq] [b] pos) (LT c (dTB (dOp (oNeI C sp) ta tb))) := by
  obtain ⟨f, fd, ps, O, G, bb⟩ := F.ex
  exact ptd_cmp (op_neI O G bb (hr.mono hk)) (fit_neI O hK) ha hb hm
end
end DL
set_option maxHeartbeats 1000000
namespace BW
open PySem L2 DL TL
section
variable {BC : Addr} {DD : DEnds} {T : Mat} {w : List Int} {X : List Addr} {k : Nat} {x2 x3 x4 x5 x6 x7 x8 x9 x10 x11 x12 x13 : Sl}
theorem ne_same {C : Addr} {Q : D → Prop} (q : Q (.bl false)) : oNeI BC (sp_eq BC) (bnd BC T) (bnd BC T) Q := by
  refine ⟨⟨_, _, rfl⟩, .inr ⟨_, _, rfl⟩, T, _, rfl, .inl ⟨T, rfl, _, rfl, ?_⟩⟩
  rw [decide_eq_true rfl]
  exact q
end
theorem tb1 : Tab [[1]] := by
  have h1 : ∀ i, i < 1 → ∀ j, j < 1 → i ≠ j → at2 [[1]] i j = 2 ∨ at2 [[1]] i j = 3 ∨ at2 [[1]] i j = 4 ∨ at2 [[1]] i j = 6 ∨ at2 [[1]] i j = 0 := by decide
  have h2 : ∀ i, i < 1 → ∀ j, j < 1 → at2 [[1]] i j = at2 [[1]] j i := by decide
  exact ⟨by decide, by decide, by decide, by decide, fun i j hi hj ne => h1 i hi j hj ne, fun i j hi hj => h2 i hi j hj⟩
end BW
set_option maxHeartbeats 1000000
namespace BW
open PySem L2 DL TL
def Shs (B : Nat) (d : D) : Prop := d.plo = true ∧ d.shw = true ∧ d.py.depth ≤ 10 ∧ d.wg ≤ B
theorem Shs.int {i : Int} (h : i.natAbs.log2 < 1920) : Shs 1921 (.int i) := ⟨rfl, decide_eq_true h, by show 0 ≤ 10; decide, Nat.le_refl _⟩
theorem shs_row {w : List Int} (h : ∀ z ∈ w, z.natAbs.log2 < 1920) (hl : w.length ≤ 60) : Shs (1923 * w.length + 4) (tI w) := by
  obtain ⟨a, b, c, e⟩ := shw_ints h
  exact ⟨plo_ints w, b, by show PyData.depthAll (pyA (w.map D.int)) + 1 ≤ 10; rw [e]; decide, by show wgA (w.map D.int) + 4 ≤ _; rw [c]; exact Nat.le_refl _⟩
theorem shs_tM {T : Mat} (ht : Tab T) : Shs 70000 (tM T) ∧ (tM T).py.depth ≤ 9 := by
  have hi := ht.hi
  obtain ⟨dT, dg⟩ := tab_dg ht
  have key : ∀ d ∈ T.map tI, d.plo = true ∧ d.shw = true ∧ d.py.depth ≤ 10 ∧ d.wg ≤ 11542 := fun d hd => by
    obtain ⟨r, hr, rfl⟩ := List.mem_map.mp hd
    obtain ⟨h1, h2⟩ := dT.2.2 r hr
    obtain ⟨a, b, c, e⟩ := shs_row (w := r) (fun z hz => small_log (by have := h1 z hz; omega)) (by omega)
    exact ⟨a, b, c, Nat.le_trans e (by omega)⟩
  obtain ⟨a, b, c, e⟩ := many_ok key
  have dep : ∀ T : Mat, (∀ r ∈ T, ∀ z ∈ r, z.natAbs.log2 < 1920) → PyData.depthAll (pyA (T.map tI)) ≤ 1 := fun T => by
    induction T with
    | nil => intro _; exact Nat.zero_le _
    | cons r T ih =>
      intro h
      have h1 := ih fun r hr => h r (List.mem_cons_of_mem _ hr)
      obtain ⟨_, _, _, q⟩ := shw_ints (ns := r) (h r List.mem_cons_self)
      show max (PyData.depthAll (pyA (r.map D.int)) + 1) (PyData.depthAll (pyA (T.map tI))) ≤ 1
      rw [q]; omega
  have dd := dep T fun r hr z hz => small_log (by have := (dT.2.2 r hr).1 z hz; omega)
  rw [List.length_map] at e
  refine ⟨⟨a, b, ?_, ?_⟩, ?_⟩
  · show PyData.depthAll (pyA (T.map tI)) + 1 ≤ 10
    omega
  · show wgA (T.map tI) + 4 ≤ _
    omega
  · show PyData.depthAll (pyA (T.map tI)) + 1 ≤ 9
    omega
theorem Shs.shw {B : Nat} {d : D} (h : Shs B d) (hB : B ≤ 200000) : ShwO d := ⟨h.1, h.2.1, by have := h.2.2.1; omega, by
  have := h.2.2.2
  have z : (200000 : Nat) ≤ sizeLine := by decide
  omega⟩
end BW
set_option maxHeartbeats 1000000
namespace BW
open PySem L2 DL
abbrev mk01 (BC : Addr) (K : PySem.W.Frag) (t : DA) : DE := dTold T6N (sp__law_classU K) (fun Ex => (dEor (dCall (sp_BondsU BC) t) (dMakeB spX_mk_Bonds Ex t)))
abbrev t_a01 : DS := (dSet 3 (dCallM 1 sp__law_table (dCons (dC (.int 6)) dNil)))
abbrev t_b01 : DS := (dSet 4 (dTupOf (dFr (dLc (iLst (dVar 3)) (dgN 10) dY (dTupN 10) [10]))))
abbrev t_c01 : DS := (dSet 5 (dOp oIx (dFr (dLs (dCons (dVar 3) (dCons (dTupN 3) (dCons (dVar 4) dNil))))) (dCallM 1 sp__law_draw (dCons (dC (.int 3)) dNil))))
abbrev t_d01 (BC : Addr) : DS := (dSet 6 (dCall (sp_BondsU BC) (dCons (dVar 5) dNil)))
abbrev t_e01 : DS := (dMut 3 (dC (.int 0)) (dC (.int 0)) (dC (.int 9)))
abbrev t_f01 (BC : Addr) : DS := (dIfS (dOr (dTB (dOp oNe (dRepD (dFld BC "table" (dVar 6))) (dRepD (dVar 4)))) (dOr (dTB (dOp oNe (dRepr (dLenO BC (sp_len_Bonds BC) (dVar 6))) (dRepr (dLenN 4)))) (dTB (dOp (oNeI BC (sp_eq BC)) (dVar 6) (dCall (sp_BondsU BC) (dCons (dVar 4) dNil)))))) (dRet (dC (.bl false))) dNext)
abbrev t_g01 : DS := (dSetCMW 7 1 sp__law_spoiled01 (dCons (dVar 4) dNil))
abbrev t_h01 (BC : Addr) (K : PySem.W.Frag) : DS := (dSet 8 (mk01 BC K (dCons (dVar 7) dNil)))
abbrev t_i01 : DS := (dIfS (dAnd (dTB (dOp (oNot oIs) (dCall sp__law_dueB (dCons (dVar 7) dNil)) (dC .non))) (dTB (dOp oNe (dRepD (dVar 8)) (dRepD (dCall sp__law_dueB (dCons (dVar 7) dNil)))))) (dRet (dC (.bl false))) dNext)
abbrev t_j01 (BC : Addr) : DS := (dIfS (dTB (dOp oIs (dCall sp__law_dueB (dCons (dVar 7) dNil)) (dC .non))) (dIfS (dOr (dNot (dTru (dIsi "list" (dVar 8)))) (dTB (dOp oNe (dFld BC "table" (dIxN 8 (dC (.int 0)))) (dTupOf (dFr (dLc (iLst (dVar 7)) (dgN 11) dY (dTupN 11) [11])))))) (dRet (dC (.bl false))) dNext) dNext)
abbrev t_k01 : DS := (dSet 9 (dOp oIx (dFr (dLs (dCons (dC .non) (dCons (dC (.int 5)) (dCons (dC (.str "1")) (dCons (dC (.bl true)) (dCons (dNewD) (dCons (dOp oPow (dC (.int 10)) (dC (.int 30))) dNil)))))))) (dCallM 1 sp__law_draw (dCons (dC (.int 6)) dNil))))
abbrev t_l01 (BC : Addr) (K : PySem.W.Frag) : DS := (dIfS (dOr (dTB (dOp oNe (mk01 BC K (dCons (dVar 9) dNil)) (dTup (dCons (dC (.str "BadBonds")) (dCons (dC .non) dNil))))) (dOr (dTB (dOp oNe (dC (.int (6))) (dC (.int 6)))) (dTB (dOp oNe (dC (.int (60))) (dC (.int 60)))))) (dRet (dC (.bl false))) dNext)
abbrev t_m01 (BC : Addr) (K : PySem.W.Frag) : DS := (dIfS (dTB (dOp oNe (mk01 BC K (dCons (dVar 7) dNil)) (dTup (dCons (dC (.str "BadBonds")) (dCons (dC .non) dNil))))) (dRet (dC (.bl false))) dNext)
abbrev t_mf01 (BC : Addr) (K : PySem.W.Frag) : DS := (dFor (iTp (dTup (dCons (dFr (dLs (dCons (dFr (dLs (dCons (dC (.int 1)) (dCons (dC (.int 5)) dNil)))) (dCons (dC .non) dNil)))) (dCons (dFr (dLs (dCons (dFr (dLs (dCons (dC (.int 2)) (dCons (dC (.int 3)) dNil)))) (dCons (dFr (dLs (dCons (dC (.int 3)) dNil))) dNil)))) (dCons (dTup (dCons (dTup (dCons (dC (.int 1)) (dCons (dC (.int 9)) (dCons (dC (.int 9)) dNil)))) (dCons (dTup dNil) (dCons (dC .non) dNil)))) dNil))))) (dgN 7) (t_m01 BC K))
abbrev t_n01 (BC : Addr) (K : PySem.W.Frag) : DS := (dRet (dAndV (dOp oEq (dFld BC "table" (dCall (sp_BondsU BC) (dCons (dFr (dLs (dCons (dFr (dLs (dCons (dC (.int 1)) dNil))) dNil))) dNil))) (dTup (dCons (dTup (dCons (dC (.int 1)) dNil)) dNil))) (dOp oEq (dTold T6N (sp__law_classU K) (fun Ex => (dEor (dCall (sp_BondsU BC) (dCons (dFr (dLs (dCons (dFr (dLs (dCons (dC (.int 1)) (dCons (dC (.int 3)) dNil)))) (dCons (dFr (dLs (dCons (dC (.int 4)) (dCons (dC (.int 1)) dNil)))) dNil)))) dNil)) (dMakeB spX_mk_Bonds Ex (dCons (dFr (dLs (dCons (dFr (dLs (dCons (dC (.int 1)) (dCons (dC (.int 3)) dNil)))) (dCons (dFr (dLs (dCons (dC (.int 4)) (dCons (dC (.int 1)) dNil)))) dNil)))) dNil))))) (dTup (dCons (dC (.str "BadBonds")) (dCons (dTup (dCons (dC (.int 2)) (dCons (dC (.int 1)) dNil))) dNil))))))
abbrev t_law01 (BC : Addr) (K : PySem.W.Frag) : DS := (dSeq (dFor (iR1 (dC (.int 4))) (dgN 2) (dSeq t_a01
  (dSeq t_b01
  (dSeq t_c01
  (dSeq (t_d01 BC)
  (dSeq t_e01
  (dSeq (t_f01 BC)
  (dSeq t_g01
  (dSeq (t_h01 BC K)
  (dSeq t_i01
  (t_j01 BC)))))))))))
  (dSeq t_k01
  (dSeq (t_l01 BC K)
  (dSeq (t_mf01 BC K)
  (t_n01 BC K)))))
abbrev sl01 (x2 x3 x4 x5 x6 x7 x8 x9 x10 x11 : Sl) : List Sl := [.no, .mst, x2, x3, x4, x5, x6, x7, x8, x9, x10, x11]
theorem bad01 {K : PySem.W.Frag} {p : D} {Q : D → Prop} (h : Q (.tup [.str "BadBonds", p])) : (∃ n fs ds, badBonds p = .exc n fs ds ∧ n ∈ T6N) ∧ sp__law_classU K [badBonds p] 0 fun d _ => Q d :=
  ⟨⟨_, _, _, rfl, by decide⟩, .inl ⟨_, _, _, rfl, by decide, by decide, h⟩⟩
theorem great01 {K : PySem.W.Frag} {Q : D → Prop} (h : Q (.tup [.str "TooGreat", .int 6])) : (∃ n fs ds, tooGreat 6 = .exc n fs ds ∧ n ∈ T6N) ∧ sp__law_classU K [tooGreat 6] 0 fun d _ => Q d :=
  ⟨⟨_, _, _, rfl, by decide⟩, .inl ⟨_, _, _, rfl, by decide, by decide, h⟩⟩
section
variable {BC : Addr} {K : PySem.W.Frag} {s : S} {Q : D → Nat → Prop} {t : DA} {d e u : D} {T : Mat}
theorem mk_bad (hb : BadT d e) (hu : dueX e u) (hQ : Q u s.k) (ha : ∀ R' : List D → Nat → Prop, R' [d] s.k → t s.nOwn R') : mk01 BC K t s Q := by
  refine .inr (ha _ fun C => ⟨C, d, e, rfl, hb, ?_⟩)
  rcases hu with ⟨p, rfl, _, rfl⟩ | ⟨rfl, rfl⟩
  · exact bad01 (Q := fun d => Q d s.k) hQ
  · exact great01 (Q := fun d => Q d s.k) hQ
theorem mk_ok (hm : matD T d) (ht : Tab T) (hQ : Q (.lst [bnd BC T]) s.k) (ha : ∀ R' : List D → Nat → Prop, R' [d] s.k → t s.nOwn R') : mk01 BC K t s Q :=
  .inl (ha _ ⟨T, d, rfl, hm, ht, hQ⟩)
end
theorem plainA_tI : ∀ T : Mat, plainA (T.map tI) = true
  | [] => rfl
  | r :: T => by
    show (D.plain (tI r) && plainA (T.map tI)) = true
    rw [show D.plain (tI r) = true from plain_ints r, plainA_tI T]; rfl
theorem plain_tM (T : Mat) : (tM T).plain = true := plainA_tI T
theorem shw_tM {T : Mat} (ht : Tab T) : Shw (tM T) := by
  obtain ⟨⟨_, b, c, e⟩, _⟩ := shs_tM ht
  exact ⟨plain_tM T, b, by omega, Nat.le_trans e (by decide)⟩
theorem shw_due {e u : D} (h : dueX e u) : Shw u := by
  rcases h with ⟨p, _, hp, rfl⟩ | ⟨_, rfl⟩
  · rcases hp with rfl | ⟨a, b, ha, hb, rfl⟩
    · exact ⟨rfl, rfl, by decide +kernel, by decide +kernel⟩
    · refine ⟨rfl, ?_, by show max 0 (max (max 0 (max 0 0) + 1) 0) + 1 ≤ 60; decide, ?_⟩
      · show (true && ((decide _ && (decide _ && true)) && true)) = true
        rw [decide_eq_true (small_log (by omega)), decide_eq_true (small_log (by omega))]; rfl
      · show _ + 2 + ((1921 + 2 + (1921 + 2 + 0) + 4) + 2 + 0) + 4 ≤ sizeLine
        have : (D.str "BadBonds").wg ≤ 20 := by decide +kernel
        have z : (5000 : Nat) ≤ sizeLine := by decide
        omega
  · exact ⟨rfl, by decide +kernel, by decide +kernel, by decide +kernel⟩
section
variable {BC : Addr} {K : PySem.W.Frag} {DD : DEnds} {T : Mat} {X : List Addr} {k : Nat} {x2 x3 x4 x5 x6 x7 x8 x9 x10 x11 : Sl} {d u : D}
theorem r_a01 (hk : k < 80000000000) (fin : ∀ (T : Mat) (k' : Nat), Tab T → k ≤ k' → k' ≤ k + 40 → DD.nx ⟨X, sl01 x2 (.dat (lM T)) x4 x5 x6 x7 x8 x9 x10 x11, k'⟩) : t_a01 DD ⟨X, sl01 x2 x3 x4 x5 x6 x7 x8 x9 x10 x11, k⟩ :=
  ⟨rfl, 6, rfl, by decide, by decide, by show k < _; omega, fun T k' ht hl a b => fin T k' ht a b⟩
theorem r_b01 (ht : Tab T) (fin : ∀ x10, DD.nx ⟨X, sl01 x2 (.dat (lM T)) (.dat (tM T)) x5 x6 x7 x8 x9 x10 x11, k⟩) : t_b01 DD ⟨X, sl01 x2 (.dat (lM T)) x4 x5 x6 x7 x8 x9 x10 x11, k⟩ := by
  have hT := ht.hi
  have lT : (T.map lI).length = T.length := List.length_map ..
  refine ⟨_, rfl, _, rfl, by rw [lT]; exact l10k (by omega), fun p hp => ⟨fun j acc k' => k' = k ∧ acc = (T.take j).map tI, ⟨rfl, rfl⟩, ?_, ?_⟩⟩
  · rintro j e acc k' he ⟨rfl, rfl⟩ _
    rw [List.getElem?_map] at he
    obtain ⟨r, hr, rfl⟩ := Option.map_eq_some_iff.mp he
    refine iteT ⟨_, rfl, rfl, ?_⟩
    rw [List.take_succ, hr, List.map_append]; rfl
  · rintro acc k' ⟨rfl, rfl⟩ _
    rw [lT, List.take_length]
    exact ⟨_, rfl, fin _⟩
theorem r_c01 (hk : k < 80000000000) (fin : ∀ d, matD T d → DD.nx ⟨X, sl01 x2 (.dat (lM T)) (.dat (tM T)) (.dat d) x6 x7 x8 x9 x10 x11, k + 1⟩) : t_c01 DD ⟨X, sl01 x2 (.dat (lM T)) (.dat (tM T)) x5 x6 x7 x8 x9 x10 x11, k⟩ := by
  refine ⟨_, rfl, _, rfl, _, rfl, by show 3 ≤ lim; decide, rfl, 3, rfl, by decide, by decide, by show k < _; omega, fun u u0 u1 => ?_⟩
  have : u = ((0 : Nat) : Int) ∨ u = ((1 : Nat) : Int) ∨ u = ((2 : Nat) : Int) := by omega
  have mt : matD T (tM T) := ⟨T.map tI, .inr rfl, List.length_map .., fun i hi => ⟨_, by rw [List.getElem?_map, getD_get (d := []) hi]; rfl, .inr rfl⟩⟩
  rcases this with rfl | rfl | rfl
  · exact ⟨_, _, rfl, atI_nat rfl, fin _ (matD_l T)⟩
  · exact ⟨_, _, rfl, atI_nat rfl, fin _ (matD_t T)⟩
  · exact ⟨_, _, rfl, atI_nat rfl, fin _ mt⟩
theorem r_d01 (ht : Tab T) (hd : matD T d) (fin : DD.nx ⟨X, sl01 x2 x3 x4 (.dat d) (.dat (bnd BC T)) x7 x8 x9 x10 x11, k⟩) : t_d01 BC DD ⟨X, sl01 x2 x3 x4 (.dat d) x6 x7 x8 x9 x10 x11, k⟩ :=
  ⟨_, rfl, T, d, rfl, hd, ht, fin⟩
theorem nol_bnd (T : Mat) : D.nol (bnd BC T) = true := by
  show (D.nol (tM T) && (D.nol (tM (wtM T)) && true)) = true
  rw [nol_tM, nol_tM]; rfl
theorem r_e01 (ht : Tab T) (fin : ∀ x2 x3 x5 x7 x8 x9 x10 x11, DD.nx ⟨X, sl01 x2 x3 (.dat (tM T)) x5 (.dat (bnd BC T)) x7 x8 x9 x10 x11, k⟩) : t_e01 DD ⟨X, sl01 x2 (.dat (lM T)) (.dat (tM T)) x5 (.dat (bnd BC T)) x7 x8 x9 x10 x11, k⟩ := by
  have lo := ht.lo
  have h0 : T[0]? = some (T.getD 0 []) := getD_get (d := []) (by omega)
  have l0 := ht.sq 0 (by omega)
  have nl : ∀ r : List Int, nolA (r.map D.int) = true := fun r => nolA_map (fun _ => rfl) r
  refine ⟨rfl, T.map lI, rfl, 0, lI (T.getD 0 []), rfl, atI_nat (j := 0) (by rw [List.getElem?_map, h0]; rfl), _, rfl, nl _, 0, 0, rfl, by rw [List.length_map, l0]; exact ixN_nat (j := 0) (by omega), fun sl' m => ?_⟩
  obtain ⟨_, _, rfl, rfl, _, _, rfl, rfl, y2, _, rfl, _, y3, _, rfl, _, _, _, rfl, ⟨_, rfl, h4⟩, y5, _, rfl, _, _, _, rfl, ⟨_, rfl, h6⟩, y7, _, rfl, _, y8, _, rfl, _, y9, _, rfl, _, y10, _, rfl, _, y11, _, rfl, _, rfl⟩ := m
  have h4 := mu_nol h4 (nol_tM T)
  have h6 := mu_nol h6 (nol_bnd T)
  subst h4 h6
  exact fin y2 y3 y5 y7 y8 y9 y10 y11
theorem r_f01 (ht : Tab T) (fin : DD.nx ⟨X, sl01 x2 x3 (.dat (tM T)) x5 (.dat (bnd BC T)) x7 x8 x9 x10 x11, k⟩) : t_f01 BC DD ⟨X, sl01 x2 x3 (.dat (tM T)) x5 (.dat (bnd BC T)) x7 x8 x9 x10 x11, k⟩ := by
  have hT := ht.hi
  have lT : (T.map tI).length = T.length := List.length_map ..
  refine ⟨_, rfl, _, _, _, rfl, rfl, trivial, shw_tM ht, _, rfl, trivial, shw_tM ht, _, rfl, ?_⟩
  rw [decide_eq_true rfl]
  refine iteF ⟨_, rfl, ⟨_, _, rfl⟩, T, rfl, hT, T.length, rfl, by refine Nat.lt_of_le_of_lt hT (by decide), _, rfl, fun i e => ?_, T.map tI, rfl, _, rfl, fun i e => ?_, _, rfl, ?_⟩
  · cases e; exact small_log (by omega)
  · rw [lT] at e; cases e; exact small_log (by omega)
  · rw [lT, decide_eq_true rfl]
    refine iteF ⟨_, rfl, _, rfl, T, tM T, rfl, ⟨T.map tI, .inr rfl, lT, fun i hi => ⟨_, by rw [List.getElem?_map, getD_get (d := []) hi]; rfl, .inr rfl⟩⟩, ht, ?_⟩
    exact ne_same (C := BC) ⟨_, rfl, iteF fin⟩
theorem r_g01 (ht : Tab T) (hk : k < 80000000000) (fin : ∀ d k' x2 x3 x5 x8 x9 x10 x11, OkB d → k ≤ k' → k' ≤ k + 20 → DD.nx ⟨X, sl01 x2 x3 (.dat (tM T)) x5 (.dat (bnd BC T)) (.dat d) x8 x9 x10 x11, k'⟩) : t_g01 DD ⟨X, sl01 x2 x3 (.dat (tM T)) x5 (.dat (bnd BC T)) x7 x8 x9 x10 x11, k⟩ := by
  refine ⟨rfl, _, rfl, ?_, T, rfl, ht, by show k < _; omega, fun d k' hd a b => ?_⟩
  · show (D.nol (tM T) && true) = true
    rw [nol_tM]; rfl
  · have := fin d k' (Sl.cln x2) (Sl.cln x3) (Sl.cln x5) (Sl.cln x8) (Sl.cln x9) (Sl.cln x10) (Sl.cln x11) hd a b
    rw [show (Sl.dat (tM T)) = Sl.cln (.dat (tM T)) from (if_pos (nol_tM T)).symm, show (Sl.dat (bnd BC T)) = Sl.cln (.dat (bnd BC T)) from (if_pos (nol_bnd T)).symm] at this
    exact this
abbrev told01 (BC : Addr) (d u e : D) : Prop := (∃ x, BadT d x ∧ dueX x u ∧ e = u) ∨ ∃ T, matD T d ∧ Tab T ∧ u = .non ∧ e = .lst [bnd BC T]
theorem set_told1 {t : DE} {i : Nat} {DD : DEnds} {s : S} (h : t s fun d k => DD.nx ((s.put i (.dat d)).at k)) : dSet i t DD s := h
theorem r_h01 (hr : Res d u) (fin : ∀ e, told01 BC d u e → DD.nx ⟨X, sl01 x2 x3 x4 x5 x6 (.dat d) (.dat e) x9 x10 x11, k⟩) : t_h01 BC K DD ⟨X, sl01 x2 x3 x4 x5 x6 (.dat d) x8 x9 x10 x11, k⟩ := by
  refine set_told1 ?_
  rcases hr with ⟨e, h1, h2⟩ | ⟨T, h1, h2, h3⟩
  · exact mk_bad h1 h2 (fin _ (.inl ⟨e, h1, h2, rfl⟩)) fun R' h => ⟨_, rfl, h⟩
  · exact mk_ok h1 h2 (fin _ (.inr ⟨T, h1, h2, h3, rfl⟩)) fun R' h => ⟨_, rfl, h⟩
theorem dueX_tup {x u : D} (h : dueX x u) : ∃ ds, u = .tup ds := by
  rcases h with ⟨p, _, _, rfl⟩ | ⟨_, rfl⟩ <;> exact ⟨_, rfl⟩
theorem r_i01 {e : D} {rs : List D} (hd : d = .lst rs) (l : rs.length ≤ 12) (hr : Res d u) (he : told01 BC d u e) (fin : DD.nx ⟨X, sl01 x2 x3 x4 x5 x6 (.dat d) (.dat e) x9 x10 x11, k⟩) : t_i01 DD ⟨X, sl01 x2 x3 x4 x5 x6 (.dat d) (.dat e) x9 x10 x11, k⟩ := by
  subst hd
  refine ⟨_, rfl, rs, u, rfl, l, hr, ?_⟩
  rcases he with ⟨x, h1, h2, rfl⟩ | ⟨T, h1, h2, rfl, rfl⟩
  · obtain ⟨ds, rfl⟩ := dueX_tup h2
    refine ⟨_, rfl, iteT ⟨_, rfl, trivial, shw_due h2, _, rfl, rs, _, rfl, l, hr, trivial, shw_due h2, _, rfl, ?_⟩⟩
    rw [decide_eq_true rfl]
    exact iteF fin
  · exact ⟨_, rfl, iteF fin⟩
theorem r_j01 {e : D} {rs : List D} (hd : d = .lst rs) (l : rs.length ≤ 12) (hr : Res d u) (he : told01 BC d u e) (fin : ∀ x11, DD.nx ⟨X, sl01 x2 x3 x4 x5 x6 (.dat d) (.dat e) x9 x10 x11, k⟩) : t_j01 BC DD ⟨X, sl01 x2 x3 x4 x5 x6 (.dat d) (.dat e) x9 x10 x11, k⟩ := by
  subst hd
  refine ⟨_, rfl, rs, u, rfl, l, hr, ?_⟩
  rcases he with ⟨x, h1, h2, rfl⟩ | ⟨T, h1, h2, rfl, rfl⟩
  · obtain ⟨ds, rfl⟩ := dueX_tup h2
    exact ⟨_, rfl, iteF (fin _)⟩
  · refine ⟨_, rfl, iteT ?_⟩
    refine ⟨_, rfl, _, true, rfl, by decide +kernel, _, rfl, iteF ?_⟩
    obtain ⟨rs', hrs, ln, row⟩ := h1
    have er : rs' = rs := by
      rcases hrs with e | e
      · cases e; rfl
      · cases e
    subst er
    have hT := h2.hi
    refine ⟨_, rfl, 0, bnd BC T, rfl, atI_nat (j := 0) rfl, _, _, _, rfl, rfl, ?_⟩
    refine ⟨_, rfl, _, rfl, by exact l10k (by omega), fun p hp => ⟨fun j acc k' => k' = k ∧ acc = (T.take j).map tI, ⟨rfl, rfl⟩, ?_, ?_⟩⟩
    · rintro j q acc k' hq ⟨rfl, rfl⟩ _
      have jl := (List.getElem?_eq_some_iff.mp hq).1
      obtain ⟨q', e1, e2⟩ := row j (by omega)
      rw [hq] at e1
      cases e1
      have nx : (T.take (j + 1)).map tI = (T.take j).map tI ++ [tI (T.getD j [])] := by
        rw [List.take_succ, getD_get (d := []) (by omega), List.map_append]; rfl
      rcases e2 with rfl | rfl
      · exact iteT ⟨_, rfl, rfl, nx.symm⟩
      · exact iteT ⟨_, rfl, rfl, nx.symm⟩
    · rintro acc k' ⟨rfl, rfl⟩ _
      rw [ln, List.take_length]
      refine ⟨_, rfl, okE_tM T, okE_tM T, ?_⟩
      show ∃ b, _ ∧ _
      refine ⟨_, rfl, ?_⟩
      have e : PyData.eqv (tM T).py (tM T).py = true := by rw [eqv_tM, decide_eq_true rfl]
      rw [show PyData.eqv (tM T).py (D.tup (T.map tI)).py = true from e]
      exact iteF (fin _)
abbrev bb0 : D := .tup [.str "BadBonds", .non]
theorem due0 : dueX (badBonds .non) bb0 := .inl ⟨.non, rfl, .inl rfl, rfl⟩
theorem bb0_ne {Q : D → Prop} (q : Q (.bl false)) : oNe bb0 bb0 Q := by
  refine ⟨by decide +kernel, by decide +kernel, ?_⟩
  have e : PyData.eqv (D.py bb0) (D.py bb0) = true := by decide +kernel
  rw [show (!PyData.eqv (D.py bb0) (D.py bb0)) = false by rw [e]; rfl]
  exact q
abbrev odds01 : List D := [.non, .int 5, .str "1", .bl true, .dic, .int (10 ^ 30)]
theorem odd01_no {o : D} (h : o ∈ odds01) : NoRows o := by
  simp only [List.mem_cons, List.not_mem_nil, or_false] at h
  rcases h with rfl | rfl | rfl | rfl | rfl | rfl <;> exact ⟨rfl, .inl rfl⟩
theorem r_k01 (hk : k < 80000000000) (fin : ∀ o, o ∈ odds01 → DD.nx ⟨X, sl01 x2 x3 x4 x5 x6 x7 x8 (.dat o) x10 x11, k + 1⟩) : t_k01 DD ⟨X, sl01 x2 x3 x4 x5 x6 x7 x8 x9 x10 x11, k⟩ := by
  refine ⟨⟨by decide, by decide, by decide⟩, by show 6 ≤ lim; decide, rfl, 6, rfl, by decide, by decide, by show k < _; omega, fun u u0 u1 => ?_⟩
  obtain ⟨o, h1, h2⟩ := get_mem (xs := odds01) (m := 6) u0 u1 rfl
  exact ⟨_, _, rfl, h1, fin o h2⟩
theorem ne_if {t1 u : DE} {a b : DS} {s : S} (h : t1 s fun d k => u (s.at k) fun e k2 => oNe d e fun z => ∃ y, z = .bl y ∧ if y = true then a DD (s.at k2) else b DD (s.at k2)) : dIfS (dTB (dOp oNe t1 u)) a b DD s := h
theorem or_if {t1 u : DE} {w : DT} {a b : DS} {s : S} (h : t1 s fun d k => u (s.at k) fun e k2 => oNe d e fun z => ∃ y, z = .bl y ∧ if y = true then (if true = true then a DD (s.at k2) else b DD (s.at k2)) else w (s.at k2) fun y k => if y = true then a DD (s.at k) else b DD (s.at k)) : dIfS (dOr (dTB (dOp oNe t1 u)) w) a b DD s := h
theorem r_m01 (hb : BadT d (badBonds .non)) (fin : DD.nx ⟨X, sl01 x2 x3 x4 x5 x6 (.dat d) x8 x9 x10 x11, k⟩) : t_m01 BC K DD ⟨X, sl01 x2 x3 x4 x5 x6 (.dat d) x8 x9 x10 x11, k⟩ := by
  refine ne_if ?_
  refine mk_bad (d := d) hb due0 ?_ (fun R' h => ⟨_, rfl, h⟩)
  exact ⟨by show 2 ≤ lim; decide, bb0_ne ⟨_, rfl, iteF fin⟩⟩
theorem r_l01 {o : D} (ho : o ∈ odds01) (fin : DD.nx ⟨X, sl01 x2 x3 x4 x5 x6 x7 x8 (.dat o) x10 x11, k⟩) : t_l01 BC K DD ⟨X, sl01 x2 x3 x4 x5 x6 x7 x8 (.dat o) x10 x11, k⟩ := by
  refine or_if ?_
  refine mk_bad (d := o) (.inl (.inl ⟨odd01_no ho, rfl⟩)) due0 ?_ (fun R' h => ⟨_, rfl, h⟩)
  refine ⟨by show 2 ≤ lim; decide, bb0_ne ⟨_, rfl, iteF ?_⟩⟩
  refine ⟨rfl, rfl, _, rfl, ?_⟩
  refine iteF ⟨rfl, rfl, _, rfl, ?_⟩
  exact iteF fin
abbrev three01 : List D := [.lst [.lst [.int 1, .int 5], .non], .lst [.lst [.int 2, .int 3], .lst [.int 3]], .tup [.tup [.int 1, .int 9, .int 9], .tup [], .non]]
theorem row01 {n : Nat} {q : D} {es : List D} (h : q.items = some es) (l : es.length = n) (a : es.all (fun e => e.tname.isSome) = true) : OkRow n q := ⟨es, h, l, fun e he => List.all_eq_true.mp a e he⟩
theorem three_bad {o : D} (h : o ∈ three01) : BadT o (badBonds .non) := by
  have one : ∀ {P : Nat → Prop}, P 0 → ∀ j, j < 1 → P j := fun h j hj => by
    have : j = 0 := by omega
    subst this; exact h
  simp only [List.mem_cons, List.not_mem_nil, or_false] at h
  rcases h with rfl | rfl | rfl
  · exact .inl (.inr (.inr ⟨[.lst [.int 1, .int 5], .non], 1, .non, rfl, by decide, by decide, one ⟨_, rfl, row01 rfl rfl rfl⟩, rfl, ⟨rfl, fun es e => nomatch e⟩, rfl⟩))
  · exact .inl (.inr (.inr ⟨[.lst [.int 2, .int 3], .lst [.int 3]], 1, .lst [.int 3], rfl, by decide, by decide, one ⟨_, rfl, row01 rfl rfl rfl⟩, rfl, ⟨rfl, fun es e => by cases e; decide⟩, rfl⟩))
  · exact .inl (.inr (.inr ⟨[.tup [.int 1, .int 9, .int 9], .tup [], .non], 1, .tup [], rfl, by decide, by decide, one ⟨_, rfl, row01 rfl rfl rfl⟩, rfl, ⟨rfl, fun es e => by cases e; decide⟩, rfl⟩))
theorem r_mf01 (fin : ∀ x7, DD.nx ⟨X, sl01 x2 x3 x4 x5 x6 x7 x8 x9 x10 x11, k⟩) : t_mf01 BC K DD ⟨X, sl01 x2 x3 x4 x5 x6 x7 x8 x9 x10 x11, k⟩ := by
  refine ⟨by show 2 ≤ lim; decide, by show 2 ≤ lim; decide, ?_⟩
  refine ⟨by show 2 ≤ lim; decide, by show 1 ≤ lim; decide, by show 2 ≤ lim; decide, ?_⟩
  refine ⟨by show 3 ≤ lim; decide, by show 0 ≤ lim; decide, by show 3 ≤ lim; decide, by show 3 ≤ lim; decide, ?_⟩
  refine ⟨three01, rfl, fun _ s' => ∃ x7, s' = ⟨X, sl01 x2 x3 x4 x5 x6 x7 x8 x9 x10 x11, k⟩, ⟨_, rfl⟩, ?_, ?_⟩
  · rintro i d s' hd ⟨x7, rfl⟩
    exact r_m01 (d := d) (three_bad (List.mem_of_getElem? hd)) ⟨_, rfl⟩
  · rintro s' ⟨x7, rfl⟩
    exact fin x7
theorem bb21 {Q : D → Prop} (q : Q (.bl true)) : oEq (.tup [.str "BadBonds", pairD' 1 0]) (.tup [.str "BadBonds", .tup [.int 2, .int 1]]) Q := by
  refine ⟨by decide +kernel, by decide +kernel, ?_⟩
  have e : PyData.eqv (D.tup [.str "BadBonds", pairD' 1 0]).py (D.tup [.str "BadBonds", .tup [.int 2, .int 1]]).py = true := by decide +kernel
  rw [e]
  exact q
theorem eq11 {Q : D → Prop} (q : Q (.bl true)) : oEq (tM [[1]]) (.tup [.tup [.int 1]]) Q := by
  refine ⟨by decide +kernel, by decide +kernel, ?_⟩
  have e : PyData.eqv (tM [[1]]).py (D.tup [.tup [.int 1]]).py = true := by decide +kernel
  rw [e]
  exact q
theorem andv_if {t1 u1 t2 u2 : DE} {s : S} {Q : D → Nat → Prop} (h : t1 s fun d k => u1 (s.at k) fun e k2 => oEq d e fun z => ∃ y, z = .bl y ∧ if y = true then (t2 (s.at k2) fun d k => u2 ((s.at k2).at k) fun e k3 => oEq d e fun z => Q z k3) else Q (.bl false) k2) : dAndV (dOp oEq t1 u1) (dOp oEq t2 u2) s Q := h
theorem r_n01 (hrt : ∀ k, DD.rt (.bl true) k) : t_n01 BC K DD ⟨X, sl01 x2 x3 x4 x5 x6 x7 x8 x9 x10 x11, k⟩ := by
  intro X'
  refine andv_if ?_
  refine ⟨by show 1 ≤ lim; decide, by show 1 ≤ lim; decide, [[1]], _, rfl, matD_l [[1]], tb1, _, _, _, rfl, rfl, by show 1 ≤ lim; decide, by show 1 ≤ lim; decide, eq11 ⟨true, rfl, iteT ?_⟩⟩
  have hb : BadT (lM [[1, 3], [4, 1]]) (badBonds (pairD' 1 0)) := by
    refine .inr ⟨[lI [1, 3], lI [4, 1]], rfl, ⟨by decide, by decide, fun q hq => ?_⟩, 1, 0, by decide, by decide, fun i j h => ?_, by decide +kernel, rfl⟩
    · simp only [List.mem_cons, List.not_mem_nil, or_false] at hq
      rcases hq with rfl | rfl <;> exact row01 rfl rfl rfl
    · have : i = 0 ∧ (j = 0 ∨ j = 1) := by
        rcases h with ⟨h1, h2⟩ | ⟨h1, h2⟩
        · have h2 : j < 2 := h2
          omega
        · omega
      obtain ⟨rfl, rfl | rfl⟩ := this <;> decide +kernel
  refine mk_bad (d := lM [[1, 3], [4, 1]]) hb (.inl ⟨_, rfl, .inr ⟨1, 0, by decide, by decide, rfl⟩, rfl⟩) ?_ (fun R' h => ⟨by show 2 ≤ lim; decide, by show 2 ≤ lim; decide, by show 2 ≤ lim; decide, h⟩)
  refine ⟨by show 2 ≤ lim; decide, by show 2 ≤ lim; decide, ?_⟩
  exact bb21 (hrt _)
end
theorem r_law01 (BC : Addr) (K : PySem.W.Frag) (DD : DEnds) (hrt : ∀ k, DD.rt (.bl true) k) : t_law01 BC K DD ⟨[], [.no, .mst, .no, .no, .no, .no, .no, .no, .no, .no, .no, .no], 0⟩ := by
  refine ⟨_, rfl, by decide, by decide, fun i s' => ∃ (X : List Addr) (x2 x3 x4 x5 x6 x7 x8 x9 x10 x11 : Sl) (k : Nat), s' = ⟨X, sl01 x2 x3 x4 x5 x6 x7 x8 x9 x10 x11, k⟩ ∧ k ≤ 1000 * i, ⟨_, _, _, _, _, _, _, _, _, _, _, 0, rfl, by omega⟩, ?_, ?_⟩
  · rintro i d s' hd ⟨X, x2, x3, x4, x5, x6, x7, x8, x9, x10, x11, k, rfl, hk⟩
    obtain ⟨hi, rfl⟩ := rngD_at hd
    have hi : i < 4 := hi
    refine r_a01 (k := k) (by omega) fun T k1 ht a1 b1 => ?_
    refine r_b01 ht fun y10 => r_c01 (k := k1) (by omega) fun d hd => r_d01 ht hd ?_
    refine r_e01 ht fun y2 y3 y5 y7 y8 y9 y10 y11 => r_f01 ht ?_
    refine r_g01 (k := k1 + 1) ht (by omega) fun d k2 z2 z3 z5 z8 z9 z10 z11 hd a2 b2 => ?_
    obtain ⟨u, hu⟩ := res_of hd
    obtain ⟨rs, rfl, l, _⟩ := hd
    refine r_h01 hu fun e he => r_i01 rfl l hu he (r_j01 rfl l hu he fun w11 => ?_)
    exact ⟨X, _, _, _, _, _, _, _, _, _, _, k2, rfl, by omega⟩
  · rintro s' ⟨X, x2, x3, x4, x5, x6, x7, x8, x9, x10, x11, k, rfl, hk⟩
    have hk : k ≤ 1000 * 4 := hk
    exact r_k01 (k := k) (by omega) fun o ho => r_l01 ho (r_mf01 fun y7 => r_n01 hrt)
end BW
namespace BW
open PySem L2 DL
theorem pd_globE {X : Cx} {c : C} {x : PySem.Str} {pos : Pos} {i : Int} (h : ∃ t, X.mg x = some (.int i t)) (hg : Gl X x := by rfl) (hd : (x == ("__debug__" : PySem.Str)) = false := by decide) : PE X (.Name x pos) (LE c (dC (.int i))) := by
  obtain ⟨t, h⟩ := h
  exact pd_globI h hg hd
abbrev s_is_whole : Stmt := top 16
theorem sc_is_whole : FnScope ["value"] ["value"] (defScope s_is_whole) := ⟨rfl, rfl, rfl, by decide +kernel, rfl, by decide +kernel, by decide +kernel⟩
theorem w_is_whole {P : Program} {w : World} {K : PySem.W.Frag} {mg : PySem.Str → Option Value} {base : Heap} (g_isinstance : mg "isinstance" = none) (g_int : mg "int" = none) (g_bool : mg "bool" = none) (qual : PySem.Str) (f : Addr) (cdv : Value) (A : Around) (outer : List Env) (s : Shared) (H : Hp) (E : XK) (M : Option Mc) (X0 : List Addr)
    (hr : Room 0 (A.deeper (PyProof.Rows.envOfC qual (defScope s_is_whole) s.heap.objs.size f cdv))) :
    PSs (cxOf CX0 P w K mg base ["value"] qual (defScope s_is_whole) f cdv A outer s H E).nox (defBody s_is_whole) (LS ⟨K, M, X0, H, []⟩ t_is_whole) :=
  (psd_one (psd_ret (pd_andV (pd_isi rfl g_isinstance g_int PyProof.Rows.boot_int (pd_var 0)) (pd_one (pd_notV (pd_isi rfl g_isinstance g_bool PyProof.Rows.boot_bool (pd_var 0)))))))
abbrev s_can_stand : Stmt := top 19
theorem sc_can_stand : FnScope ["rows", "one", "other", "item"] ["rows", "one", "other"] (defScope s_can_stand) := ⟨rfl, rfl, rfl, by decide +kernel, rfl, by decide +kernel, by decide +kernel⟩
theorem w_can_stand {P : Program} {w : World} {K : PySem.W.Frag} {mg : PySem.Str → Option Value} {base : Heap} (g_OWN_BOND : ∃ t, mg "OWN_BOND" = some (.int (1) t)) (g_WEIGHTS : KdAt P w K mg "WEIGHTS" kd_WEIGHTS) (c_is_whole : CalD P w K mg base 1 "is_whole" false sp_is_whole) (qual : PySem.Str) (f : Addr) (cdv : Value) (A : Around) (outer : List Env) (s : Shared) (H : Hp) (E : XK) (M : Option Mc) (X0 : List Addr)
    (hr : Room 1 (A.deeper (PyProof.Rows.envOfC qual (defScope s_can_stand) s.heap.objs.size f cdv))) :
    PSs (cxOf CX0 P w K mg base ["rows", "one", "other", "item"] qual (defScope s_can_stand) f cdv A outer s H E).nox (defBody s_can_stand) (LS ⟨K, M, X0, H, []⟩ t_can_standU) :=
  (psd_cons (psd_set 3 sc_can_stand.nd (pd_ix rfl (pd_ixN rfl 0 (pd_sub (pd_var 1) pd_int)) (pd_sub (pd_var 2) pd_int)))
  (psd_cons (psd_if (ptd_not (pt_tru rfl (pd_call rfl c_is_whole hr (by decide) (pad_cons (pd_var 3) pad_nil)))) (psd_one (psd_ret pd_bl)) psd_nil)
  (psd_cons (psd_if (ptd_cmp (OpR.or op_eq (op_eqD hr.units)) (fit_eq rfl) (pd_var 1) (pd_var 2)) (psd_one (psd_ret (pd_cmp (OpR.or op_eq (op_eqD hr.units)) (fit_eq rfl) (pd_var 3) (pd_globE g_OWN_BOND)))) psd_nil)
  (psd_cons (psd_if (ptd_cmp op_lt fit_lt (pd_var 1) (pd_var 2)) (psd_one (psd_ret (pd_inkd g_WEIGHTS (pd_var 3)))) psd_nil)
  (psd_one (psd_ret (pd_cmp (OpR.or op_eq (op_eqD hr.units)) (fit_eq rfl) (pd_var 3) (pd_ix rfl (pd_ixN rfl 0 (pd_sub (pd_var 2) pd_int)) (pd_sub (pd_var 1) pd_int)))))))))
abbrev s_check_shape : Stmt := top 20
theorem sc_check_shape : FnScope ["rows", "row"] ["rows"] (defScope s_check_shape) := ⟨rfl, rfl, rfl, by decide +kernel, rfl, by decide +kernel, by decide +kernel⟩
theorem w_check_shape {P : Program} {w : World} {K : PySem.W.Frag} {mg : PySem.Str → Option Value} {base : Heap} (g_isinstance : mg "isinstance" = none) (g_list : mg "list" = none) (g_tuple : mg "tuple" = none) (g_len : mg "len" = none) (g_MOST_LETTERS : ∃ t, mg "MOST_LETTERS" = some (.int (6) t)) (qual : PySem.Str) (f : Addr) (cdv : Value) (A : Around) (outer : List Env) (s : Shared) (H : Hp) (E : XK) (M : Option Mc) (X0 : List Addr)
    (hr : Room 0 (A.deeper (PyProof.Rows.envOfC qual (defScope s_check_shape) s.heap.objs.size f cdv))) :
    PSs (cxOf CX0 P w K mg base ["rows", "row"] qual (defScope s_check_shape) f cdv A outer s H E).nox (defBody s_check_shape) (LS ⟨K, M, X0, H, []⟩ t_check_shapeU) :=
  (psd_cons (psd_if (PW.pt (pwd_or (ptd_not (pt_tru rfl (pd_isi2 rfl g_isinstance g_list g_tuple PyProof.Rows.boot_list PyProof.Rows.boot_tuple (pd_var 0)))) (pwd_or1 (ptd_cmp (OpR.or op_eq (op_eqD hr.units)) (fit_eq rfl) (pd_lenN rfl g_len 0) pd_int)))) (psd_one psd_never) psd_nil)
  (psd_cons (psd_if (ptd_cmp op_gt fit_gt (pd_lenN rfl g_len 0) (pd_globE g_MOST_LETTERS)) (psd_one psd_never) psd_nil)
  (psd_one (psd_for PassesOwn.never rfl (pid_seq rfl (pd_var 0)) (pgd_name 1 sc_check_shape.nd) (psd_one (psd_if (PW.pt (pwd_or (ptd_not (pt_tru rfl (pd_isi2 rfl g_isinstance g_list g_tuple PyProof.Rows.boot_list PyProof.Rows.boot_tuple (pd_var 1)))) (pwd_or1 (ptd_cmp (OpR.or op_ne (op_neD hr.units)) (fit_ne rfl) (pd_lenN rfl g_len 1) (pd_lenN rfl g_len 0))))) (psd_one psd_never) psd_nil))))))
abbrev s_check_table : Stmt := top 21
theorem sc_check_table : FnScope ["rows", "letters", "one", "other"] ["rows"] (defScope s_check_table) := ⟨rfl, rfl, rfl, by decide +kernel, rfl, by decide +kernel, by decide +kernel⟩
theorem w_check_table {P : Program} {w : World} {K : PySem.W.Frag} {mg : PySem.Str → Option Value} {base : Heap} (g_list : mg "list" = none) (g_range : mg "range" = none) (g_len : mg "len" = none) (c_check_shape : CalD P w K mg base 1 "check_shape" false sp_check_shapeU) (c_can_stand : CalD P w K mg base 2 "can_stand" false sp_can_standU) (qual : PySem.Str) (f : Addr) (cdv : Value) (A : Around) (outer : List Env) (s : Shared) (H : Hp) (E : XK) (M : Option Mc) (X0 : List Addr)
    (hr : Room 2 (A.deeper (PyProof.Rows.envOfC qual (defScope s_check_table) s.heap.objs.size f cdv))) :
    PSs (cxOf CX0 P w K mg base ["rows", "letters", "one", "other"] qual (defScope s_check_table) f cdv A outer s H E).nox (defBody s_check_table) (LS ⟨K, M, X0, H, []⟩ t_check_tableU) :=
  (psd_cons (psd_expr (pd_call rfl c_check_shape hr (by decide) (pad_cons (pd_var 0) pad_nil)))
  (psd_cons (psd_set 1 sc_check_table.nd (pd_fr (pdf_lr2 rfl g_list g_range pd_int (pd_add rfl (pd_lenN rfl g_len 0) pd_int))))
  (psd_one (psd_for PassesOwn.never rfl (pid_list rfl (pd_var 1)) (pgd_name 2 sc_check_table.nd) (psd_one (psd_for PassesOwn.never rfl (pid_list rfl (pd_var 1)) (pgd_name 3 sc_check_table.nd) (psd_one (psd_if (ptd_not (pt_tru rfl (pd_call rfl c_can_stand hr (by decide) (pad_cons (pd_var 0) (pad_cons (pd_var 2) (pad_cons (pd_var 3) pad_nil)))))) (psd_one psd_never) psd_nil))))))))
abbrev s_weight_of : Stmt := top 22
theorem sc_weight_of : FnScope ["table", "one", "other", "upward", "downward"] ["table", "one", "other"] (defScope s_weight_of) := ⟨rfl, rfl, rfl, by decide +kernel, rfl, by decide +kernel, by decide +kernel⟩
theorem w_weight_of {P : Program} {w : World} {K : PySem.W.Frag} {mg : PySem.Str → Option Value} {base : Heap} (g_OWN_WEIGHT : ∃ t, mg "OWN_WEIGHT" = some (.int (-2) t)) (g_WEIGHTS : KdAt P w K mg "WEIGHTS" kd_WEIGHTS) (qual : PySem.Str) (f : Addr) (cdv : Value) (A : Around) (outer : List Env) (s : Shared) (H : Hp) (E : XK) (M : Option Mc) (X0 : List Addr)
    (hr : Room 0 (A.deeper (PyProof.Rows.envOfC qual (defScope s_weight_of) s.heap.objs.size f cdv))) :
    PSs (cxOf CX0 P w K mg base ["table", "one", "other", "upward", "downward"] qual (defScope s_weight_of) f cdv A outer s H E).nox (defBody s_weight_of) (LS ⟨K, M, X0, H, []⟩ t_weight_of) :=
  (psd_cons (psd_if (ptd_cmp (OpR.or op_eq (op_eqD hr.units)) (fit_eq rfl) (pd_var 1) (pd_var 2)) (psd_one (psd_ret (pd_globE g_OWN_WEIGHT))) psd_nil)
  (psd_cons (psd_asg (pd_kd rfl g_WEIGHTS (pd_ix rfl (pd_ixN rfl 0 (pd_sub (pd_var 1) pd_int)) (pd_sub (pd_var 2) pd_int))) (pgd_tup rfl rfl (pgds_cons (pgd_name 3 sc_weight_of.nd) (pgds_cons (pgd_name 4 sc_weight_of.nd) pgds_nil))))
  (psd_one (psd_ret (pd_if (ptd_cmp op_lt fit_lt (pd_var 1) (pd_var 2)) (pd_var 3) (pd_var 4))))))
abbrev s_weights_from : Stmt := top 23
theorem sc_weights_from : FnScope ["table", "one", "other"] ["table", "one"] (defScope s_weights_from) := ⟨rfl, rfl, rfl, by decide +kernel, rfl, by decide +kernel, by decide +kernel⟩
theorem w_weights_from {P : Program} {w : World} {K : PySem.W.Frag} {mg : PySem.Str → Option Value} {base : Heap} (g_tuple : mg "tuple" = none) (g_range : mg "range" = none) (g_len : mg "len" = none) (c_weight_of : CalD P w K mg base 1 "weight_of" false sp_weight_of) (qual : PySem.Str) (f : Addr) (cdv : Value) (A : Around) (outer : List Env) (s : Shared) (H : Hp) (E : XK) (M : Option Mc) (X0 : List Addr)
    (hr : Room 1 (A.deeper (PyProof.Rows.envOfC qual (defScope s_weights_from) s.heap.objs.size f cdv))) :
    PSs (cxOf CX0 P w K mg base ["table", "one", "other"] qual (defScope s_weights_from) f cdv A outer s H E).nox (defBody s_weights_from) (LS ⟨K, M, X0, H, []⟩ t_weights_from) :=
  (psd_one (psd_ret (pd_tupOf rfl g_tuple (pd_fr (pdf_lc (own := [("other", 2)]) rfl sc_weights_from.nd (pid_r2 g_range pd_int (pd_add rfl (pd_lenN rfl g_len 0) pd_int)) (blkOk_by (N := ["table", "one", "other"]) (sc := defScope s_weights_from) (by decide +kernel)) (fun sB HB CB clB fpB => (pgd_name 2 sc_weights_from.nd)) (fun sB HB CB clB fpB => pts_none) (fun sB HB CB clB fpB => (pd_call rfl c_weight_of hr (by decide) (pad_cons (pd_var 0) (pad_cons (pd_var 1) (pad_cons (pd_var 2) pad_nil))))))))))
abbrev s__law_mixed : Stmt := top 26
theorem sc__law_mixed : FnScope ["cell", "n", "blend"] ["cell", "n"] (defScope s__law_mixed) := ⟨rfl, rfl, rfl, by decide +kernel, rfl, by decide +kernel, by decide +kernel⟩
theorem w__law_mixed {P : Program} {w : World} {K : PySem.W.Frag} {mg : PySem.Str → Option Value} {base : Heap} (g_int : mg "int" = none) (qual : PySem.Str) (f : Addr) (cdv : Value) (A : Around) (outer : List Env) (s : Shared) (H : Hp) (E : XK) (M : Option Mc) (X0 : List Addr)
    (hr : Room 0 (A.deeper (PyProof.Rows.envOfC qual (defScope s__law_mixed) s.heap.objs.size f cdv))) :
    PSs (cxOf CX0 P w K mg base ["cell", "n", "blend"] qual (defScope s__law_mixed) f cdv A outer s H E).nox (defBody s__law_mixed) (LS ⟨K, M, X0, H, []⟩ t__law_mixed) :=
  (psd_cons (psd_set 2 sc__law_mixed.nd (pd_add rfl (pd_add rfl (pd_mod (pd_int1 g_int (pd_mul rfl (pd_mul rfl (pd_var 0) (pd_add rfl pd_int (pd_mul rfl pd_int (pd_var 1)))) pd_int)) pd_int) (pd_mul rfl (pd_mul rfl pd_int (pd_var 1)) (pd_var 1))) (pd_mul rfl pd_int (pd_var 1))))
  (psd_one (psd_ret (pd_div (pd_mod (pd_int1 g_int (pd_mul rfl (pd_var 2) pd_int)) pd_int) pd_int))))
abbrev s__law_folded : Stmt := top 27
abbrev s__law_draw : Stmt := top 28
abbrev s__law_begun : Stmt := top 29
abbrev s__law_table : Stmt := top 30
theorem sc__law_table : FnScope ["m", "most", "many", "way", "rows", "a", "b", "kind"] ["m", "most"] (defScope s__law_table) := ⟨rfl, rfl, rfl, by decide +kernel, rfl, by decide +kernel, by decide +kernel⟩
abbrev s__law_class : Stmt := top 31
theorem sc__law_class : FnScope ["error", "kinds", "words", "word", "holds"] ["error"] (defScope s__law_class) := ⟨rfl, rfl, rfl, by decide +kernel, rfl, by decide +kernel, by decide +kernel⟩
theorem w__law_class {P : Program} {w : World} {K : PySem.W.Frag} {mg : PySem.Str → Option Value} {base : Heap} (g_isinstance : mg "isinstance" = none) (g_len : mg "len" = none) (m_BadBonds : mg "BadBonds" = some (.ref (He.ga K "BadBonds"))) (m_BadWord : mg "BadWord" = some (.ref (He.ga K "BadWord"))) (m_BadRow : mg "BadRow" = some (.ref (He.ga K "BadRow"))) (m_BadDeed : mg "BadDeed" = some (.ref (He.ga K "BadDeed"))) (m_BadNumber : mg "BadNumber" = some (.ref (He.ga K "BadNumber"))) (m_Unlike : mg "Unlike" = some (.ref (He.ga K "Unlike"))) (m_TooGreat : mg "TooGreat" = some (.ref (He.ga K "TooGreat"))) (qual : PySem.Str) (f : Addr) (cdv : Value) (A : Around) (outer : List Env) (s : Shared) (H : Hp) (E : XK) (M : Option Mc) (X0 : List Addr)
    (hr : Room 0 (A.deeper (PyProof.Rows.envOfC qual (defScope s__law_class) s.heap.objs.size f cdv))) :
    PSs (cxOf CX0 P w K mg base ["error", "kinds", "words", "word", "holds"] qual (defScope s__law_class) f cdv A outer s H E).nox (defBody s__law_class) (LS ⟨K, M, X0, H, [1]⟩ (t__law_class K)) :=
  (psd_cons (psd_setO 1 rfl sc__law_class.nd (pdf_lst (pad_cons (pd_tup (pad_cons pd_str (pad_cons (pd_isiE rfl g_isinstance m_BadBonds (pd_var 0)) pad_nil))) (pad_cons (pd_tup (pad_cons pd_str (pad_cons (pd_isiE rfl g_isinstance m_BadWord (pd_var 0)) pad_nil))) pad_nil))))
  (psd_cons (psd_setO 1 rfl sc__law_class.nd (pdf_plN 1 (pd_fr (pdf_lst (pad_cons (pd_tup (pad_cons pd_str (pad_cons (pd_isiE rfl g_isinstance m_BadRow (pd_var 0)) pad_nil))) (pad_cons (pd_tup (pad_cons pd_str (pad_cons (pd_isiE rfl g_isinstance m_BadDeed (pd_var 0)) pad_nil))) pad_nil))))))
  (psd_cons (psd_setO 1 rfl sc__law_class.nd (pdf_plN 1 (pd_fr (pdf_lst (pad_cons (pd_tup (pad_cons pd_str (pad_cons (pd_isiE rfl g_isinstance m_BadNumber (pd_var 0)) pad_nil))) (pad_cons (pd_tup (pad_cons pd_str (pad_cons (pd_isiE rfl g_isinstance m_Unlike (pd_var 0)) pad_nil))) pad_nil))))))
  (psd_cons (psd_app 1 (pd_tup (pad_cons pd_str (pad_cons (pd_isiE rfl g_isinstance m_TooGreat (pd_var 0)) pad_nil))))
  (psd_cons (psd_frz (psd_setLc 2 (own := [("word", 3), ("holds", 4)]) rfl sc__law_class.nd (pid_list rfl (pd_var 1)) (blkOk_by (N := ["error", "kinds", "words", "word", "holds"]) (sc := defScope s__law_class) (by decide +kernel)) (fun sB HB CB clB fpB => (pgd_tup rfl rfl (pgds_cons (pgd_name 3 sc__law_class.nd) (pgds_cons (pgd_name 4 sc__law_class.nd) pgds_nil)))) (fun sB HB CB clB fpB => (ptsd_one (pt_tru rfl (pd_var 4)))) (fun sB HB CB clB fpB => (pd_var 3))))
  (psd_cons (psd_if (ptd_cmp (OpR.or op_ne (op_neD hr.units)) (fit_ne rfl) (pd_lenN rfl g_len 2) pd_int) (psd_one (psd_ret (pd_tup (pad_cons pd_str pad_nil)))) psd_nil)
  (psd_cons (psd_if (ptd_cmp op_in_seq (fit_in rfl) (pd_ixN rfl 2 pd_int) (pd_tup (pad_cons pd_str (pad_cons pd_str (pad_cons pd_str pad_nil))))) (psd_one (psd_ret (pd_tup (pad_cons (pd_ixN rfl 2 pd_int) (pad_cons (pd_xf rfl (pd_var 0)) pad_nil))))) psd_nil)
  (psd_cons (psd_if (ptd_cmp op_in_seq (fit_in rfl) (pd_ixN rfl 2 pd_int) (pd_tup (pad_cons pd_str (pad_cons pd_str pad_nil)))) (psd_one (psd_ret (pd_tup (pad_cons (pd_ixN rfl 2 pd_int) (pad_cons (pd_xf rfl (pd_var 0)) pad_nil))))) psd_nil)
  (psd_one (psd_ret (pd_if (ptd_cmp (OpR.or op_eq (op_eqD hr.units)) (fit_eq rfl) (pd_ixN rfl 2 pd_int) pd_str) (pd_tup (pad_cons (pd_ixN rfl 2 pd_int) (pad_cons (pd_xf rfl (pd_var 0)) pad_nil))) (pd_tup (pad_cons pd_str pad_nil)))))))))))))
abbrev s__law_due : Stmt := top 33
theorem sc__law_due : FnScope ["rows", "row", "a", "b", "one", "is_good"] ["rows"] (defScope s__law_due) := ⟨rfl, rfl, rfl, by decide +kernel, rfl, by decide +kernel, by decide +kernel⟩
theorem w__law_due {P : Program} {w : World} {K : PySem.W.Frag} {mg : PySem.Str → Option Value} {base : Heap} (g_len : mg "len" = none) (g_isinstance : mg "isinstance" = none) (g_list : mg "list" = none) (g_tuple : mg "tuple" = none) (g_range : mg "range" = none) (g_int : mg "int" = none) (g_bool : mg "bool" = none) (qual : PySem.Str) (f : Addr) (cdv : Value) (A : Around) (outer : List Env) (s : Shared) (H : Hp) (E : XK) (M : Option Mc) (X0 : List Addr)
    (hr : Room 0 (A.deeper (PyProof.Rows.envOfC qual (defScope s__law_due) s.heap.objs.size f cdv))) :
    PSs (cxOf CX0 P w K mg base ["rows", "row", "a", "b", "one", "is_good"] qual (defScope s__law_due) f cdv A outer s H E).nox (defBody s__law_due) (LS ⟨K, M, X0, H, []⟩ t__law_dueB) :=
  (psd_cons (psd_if (PW.pt (pwd_or (ptd_cmp (OpR.or op_eq (op_eqD hr.units)) (fit_eq rfl) (pd_lenN rfl g_len 0) pd_int) (pwd_or1 (ptd_cmp op_gt fit_gt (pd_lenN rfl g_len 0) pd_int)))) (psd_one (psd_ret (pd_if (ptd_cmp (OpR.or op_eq (op_eqD hr.units)) (fit_eq rfl) (pd_lenN rfl g_len 0) pd_int) (pd_tup (pad_cons pd_str (pad_cons pd_non pad_nil))) (pd_tup (pad_cons pd_str (pad_cons pd_int pad_nil)))))) psd_nil)
  (psd_cons (psd_for PassesOwn.never rfl (pid_list rfl (pd_var 0)) (pgd_name 1 sc__law_due.nd) (psd_one (psd_if (PW.pt (pwd_or (ptd_not (pt_tru rfl (pd_isi2 rfl g_isinstance g_list g_tuple PyProof.Rows.boot_list PyProof.Rows.boot_tuple (pd_var 1)))) (pwd_or1 (ptd_cmp (OpR.or op_ne (op_neD hr.units)) (fit_ne rfl) (pd_lenN rfl g_len 1) (pd_lenN rfl g_len 0))))) (psd_one (psd_ret (pd_tup (pad_cons pd_str (pad_cons pd_non pad_nil))))) psd_nil)))
  (psd_cons (psd_for PassesOwn.never rfl (pid_r1 g_range (pd_lenN rfl g_len 0)) (pgd_name 2 sc__law_due.nd) (psd_one (psd_for PassesOwn.never rfl (pid_r1 g_range (pd_lenN rfl g_len 0)) (pgd_name 3 sc__law_due.nd) (psd_cons (psd_set 4 sc__law_due.nd (pd_ix rfl (pd_ixN rfl 0 (pd_var 2)) (pd_var 3)))
  (psd_cons (psd_set 5 sc__law_due.nd (pd_andV (pd_isi rfl g_isinstance g_int PyProof.Rows.boot_int (pd_var 4)) (pd_one (pd_notV (pd_isi rfl g_isinstance g_bool PyProof.Rows.boot_bool (pd_var 4))))))
  (psd_cons (psd_if (ptd_cmp (OpR.or op_eq (op_eqD hr.units)) (fit_eq rfl) (pd_var 2) (pd_var 3)) (psd_one (psd_set 5 sc__law_due.nd (pd_andV (pd_var 5) (pd_one (pd_cmp (OpR.or op_eq (op_eqD hr.units)) (fit_eq rfl) (pd_var 4) pd_int))))) (psd_one (psd_set 5 sc__law_due.nd (pd_andV (pd_var 5) (pd_andV (pd_cmp op_in_seq (fit_in rfl) (pd_var 4) (pd_tup (pad_cons pd_int (pad_cons pd_int (pad_cons pd_int (pad_cons pd_int (pad_cons pd_int pad_nil))))))) (pd_one (pd_orV (pd_cmp op_lt fit_lt (pd_var 2) (pd_var 3)) (pd_one (pd_cmp (OpR.or op_eq (op_eqD hr.units)) (fit_eq rfl) (pd_var 4) (pd_ix rfl (pd_ixN rfl 0 (pd_var 3)) (pd_var 2)))))))))))
  (psd_one (psd_if (ptd_not (pt_tru rfl (pd_var 5))) (psd_one (psd_ret (pd_tup (pad_cons pd_str (pad_cons (pd_tup (pad_cons (pd_add rfl (pd_var 2) pd_int) (pad_cons (pd_add rfl (pd_var 3) pd_int) pad_nil))) pad_nil))))) psd_nil))))))))
  (psd_one (psd_ret pd_non)))))
abbrev s__law_spoiled : Stmt := top 34
theorem sc__law_spoiled : FnScope ["m", "rows", "found", "many", "way", "a", "n", "b", "row"] ["m", "rows"] (defScope s__law_spoiled) := ⟨rfl, rfl, rfl, by decide +kernel, rfl, by decide +kernel, by decide +kernel⟩
theorem w__law_spoiled {P : Program} {w : World} {K : PySem.W.Frag} {mg : PySem.Str → Option Value} {base : Heap} (g_list : mg "list" = none) (g_len : mg "len" = none) (g_range : mg "range" = none) (c__law_draw : CalD P w K mg base 2 "_law_draw" true sp__law_draw) (qual : PySem.Str) (f : Addr) (cdv : Value) (A : Around) (outer : List Env) (s : Shared) (H : Hp) (E : XK) {c : C} (hc : c.K = K) (ho : c.ow = [2]) (hw : Weak c)
    (hr : Room 2 (A.deeper (PyProof.Rows.envOfC qual (defScope s__law_spoiled) s.heap.objs.size f cdv))) :
    PSs (cxOf CX0 P w K mg base ["m", "rows", "found", "many", "way", "a", "n", "b", "row"] qual (defScope s__law_spoiled) f cdv A outer s H E).nox (defBody s__law_spoiled) (LSW c t__law_spoiled01) :=
  (psW_cons (psW_of (psd_setLcO 2 (own := [("row", 8)]) rfl sc__law_spoiled.nd (pid_tup hc (pd_var 1)) (blkOk_by (N := ["m", "rows", "found", "many", "way", "a", "n", "b", "row"]) (sc := defScope s__law_spoiled) (by decide +kernel)) (fun sB HB CB clB fpB => (pgd_name 8 sc__law_spoiled.nd)) (fun sB HB CB clB fpB => pts_none) (fun sB HB CB clB fpB => (pd_fr (pdf_lstN hc g_list 8)))))
  (psW_cons (psW_of (psd_par2 3 4 rfl sc__law_spoiled.nd (pax_dat (pd_lenN hc g_len 2) (pax_dat (pd_callM hc c__law_draw hr (by decide) 0 (pad_cons pd_int pad_nil)) pax_nil))))
  (psW_cons (psW_of (psd_if (ptd_cmp (OpR.or op_eq (op_eqD hr.units)) (fit_eq hc) (pd_var 4) pd_int) (psd_one (psd_ret (pd_ix hc (pd_fr (pdf_lst (pad_cons (pd_slice hc (pd_var 2) pod_none (pod_some pd_negc)) (pad_cons (pd_add hc (pd_var 2) (pd_fr (pdf_lst (pad_cons (pd_mul hc (pd_fr (pdf_lst (pad_cons pd_int pad_nil))) (pd_var 3)) pad_nil)))) (pad_cons (pd_add hc (pd_var 2) (pd_var 2)) (pad_cons (pd_fr (pdf_lst pad_nil)) (pad_cons (pd_mul hc (pd_fr (pdf_lst (pad_cons (pd_ixN hc 2 pd_int) pad_nil))) pd_int) (pad_cons (pd_mul hc (pd_fr (pdf_lst (pad_cons pd_non pad_nil))) (pd_var 3)) pad_nil)))))))) (pd_callM hc c__law_draw hr (by decide) 0 (pad_cons pd_int pad_nil))))) psd_nil))
  (psW_cons (psW_of (psd_if (ptd_cmp (OpR.or op_eq (op_eqD hr.units)) (fit_eq hc) (pd_var 4) pd_int) (psd_cons (psd_set 5 sc__law_spoiled.nd (pd_callM hc c__law_draw hr (by decide) 0 (pad_cons (pd_var 3) pad_nil)))
  (psd_cons (psd_six 2 (pd_var 5) (pd_ix hc (pd_fr (pdf_lst (pad_cons (pd_slice hc (pd_ixN hc 2 (pd_var 5)) pod_none (pod_some pd_negc)) (pad_cons (pd_add hc (pd_ixN hc 2 (pd_var 5)) (pd_fr (pdf_lst (pad_cons pd_int pad_nil)))) (pad_cons pd_non (pad_cons pd_str (pad_cons pd_int (pad_cons (pd_tup pad_nil) (pad_cons pd_newD pad_nil))))))))) (pd_callM hc c__law_draw hr (by decide) 0 (pad_cons pd_int pad_nil))))
  (psd_one (psd_ret (pd_var 2))))) psd_nil))
  (psW_cons (psW_for PassesOwn.never rfl (pidW_r1 g_range (pd_add hc pd_int (pd_callM hc c__law_draw hr (by decide) 0 (pad_cons pd_int pad_nil)))) (pgd_name 6 sc__law_spoiled.nd) (psW_cons (psW_of (psd_par2 5 7 rfl sc__law_spoiled.nd (pax_dat (pd_callM hc c__law_draw hr (by decide) 0 (pad_cons (pd_var 3) pad_nil)) (pax_dat (pd_callM hc c__law_draw hr (by decide) 0 (pad_cons (pd_var 3) pad_nil)) pax_nil))))
  (psW_one (psW_mut hw hc 2 (pd_var 5) (pd_var 7) (pd_ix hc (pd_fr (pdf_lst (pad_cons pd_int (pad_cons pd_int (pad_cons pd_int (pad_cons pd_int (pad_cons pd_int (pad_cons pd_int (pad_cons pd_int (pad_cons pd_int (pad_cons (pd_sub pd_int pd_int) (pad_cons pd_bl (pad_cons pd_non (pad_cons pd_str (pad_cons (pd_tup (pad_cons pd_int pad_nil)) (pad_cons (pd_pow pd_int pd_int) pad_nil)))))))))))))))) (pd_callM hc c__law_draw hr (by decide) 0 (pad_cons pd_int pad_nil)))))))
  (psW_one (psW_of (psd_ret (pd_var 2)))))))))
end BW
namespace BW
open PySem L2 DL
theorem wX_check_shape {P : Program} {w : World} {K : PySem.W.Frag} {mg : PySem.Str → Option Value} {base : Heap} (g_isinstance : mg "isinstance" = none) (g_list : mg "list" = none) (g_tuple : mg "tuple" = none) (g_len : mg "len" = none) (g_MOST_LETTERS : ∃ t, mg "MOST_LETTERS" = some (.int (6) t)) {f_BadBonds : Addr} (x_BadBonds : XE1.Txt K mg "BadBonds" "place" (He.ga K "BadBonds") f_BadBonds) {f_TooGreat : Addr} (x_TooGreat : XE1.Txt K mg "TooGreat" "most" (He.ga K "TooGreat") f_TooGreat) (qual : PySem.Str) (f : Addr) (cdv : Value) (A : Around) (outer : List Env) (s : Shared) (H : Hp) (E : XK) (M : Option Mc) (X0 : List Addr) (Ex : EX)
    (hr : Room 0 (A.deeper (PyProof.Rows.envOfC qual (defScope s_check_shape) s.heap.objs.size f cdv))) (tk : Takes (cxOf (L2.CX P w) P w K mg base ["rows", "row"] qual (defScope s_check_shape) f cdv A outer s H E) (WL ⟨K, M, X0, H, []⟩ Ex)) :
    PSs (cxOf (L2.CX P w) P w K mg base ["rows", "row"] qual (defScope s_check_shape) f cdv A outer s H E) (defBody s_check_shape) (LS ⟨K, M, X0, H, []⟩ (tX_check_shapeB Ex)) :=
  (psd_cons (psd_if (PW.pt (pwd_or (ptd_not (pt_tru rfl (pd_isi2 rfl g_isinstance g_list g_tuple PyProof.Rows.boot_list PyProof.Rows.boot_tuple (pd_var 0)))) (pwd_or1 (ptd_cmp (OpR.or op_eq (op_eqD hr.units)) (fit_eq rfl) (pd_lenN rfl g_len 0) pd_int)))) (psd_one (psd_raise rfl rfl tk x_BadBonds hr pd_non)) psd_nil)
  (psd_cons (psd_if (ptd_cmp op_gt fit_gt (pd_lenN rfl g_len 0) (pd_globE g_MOST_LETTERS)) (psd_one (psd_raise rfl rfl tk x_TooGreat hr (pd_globE g_MOST_LETTERS))) psd_nil)
  (psd_one (psd_for (L2.passes_of rfl) rfl (pid_seq rfl (pd_var 0)) (pgd_name 1 sc_check_shape.nd) (psd_one (psd_if (PW.pt (pwd_or (ptd_not (pt_tru rfl (pd_isi2 rfl g_isinstance g_list g_tuple PyProof.Rows.boot_list PyProof.Rows.boot_tuple (pd_var 1)))) (pwd_or1 (ptd_cmp (OpR.or op_ne (op_neD hr.units)) (fit_ne rfl) (pd_lenN rfl g_len 1) (pd_lenN rfl g_len 0))))) (psd_one (psd_raise rfl rfl tk x_BadBonds hr pd_non)) psd_nil))))))
theorem wX_check_table {P : Program} {w : World} {K : PySem.W.Frag} {mg : PySem.Str → Option Value} {base : Heap} (g_list : mg "list" = none) (g_range : mg "range" = none) (g_len : mg "len" = none) {f_BadBonds : Addr} (x_BadBonds : XE1.Txt K mg "BadBonds" "place" (He.ga K "BadBonds") f_BadBonds) (c_can_standX : CalD P w K mg base 2 "can_stand" false sp_can_standXU) (cX_check_shape : CalX P w K mg base 1 "check_shape" (spX_check_shapeB)) (qual : PySem.Str) (f : Addr) (cdv : Value) (A : Around) (outer : List Env) (s : Shared) (H : Hp) (E : XK) (M : Option Mc) (X0 : List Addr) (Ex : EX)
    (hr : Room 2 (A.deeper (PyProof.Rows.envOfC qual (defScope s_check_table) s.heap.objs.size f cdv))) (tk : Takes (cxOf (L2.CX P w) P w K mg base ["rows", "letters", "one", "other"] qual (defScope s_check_table) f cdv A outer s H E) (WL ⟨K, M, X0, H, []⟩ Ex)) :
    PSs (cxOf (L2.CX P w) P w K mg base ["rows", "letters", "one", "other"] qual (defScope s_check_table) f cdv A outer s H E) (defBody s_check_table) (LS ⟨K, M, X0, H, []⟩ (tX_check_tableB Ex)) :=
  (psd_cons (psd_expr (pd_callX rfl tk cX_check_shape hr (by decide) (pad_cons (pd_var 0) pad_nil)))
  (psd_cons (psd_set 1 sc_check_table.nd (pd_fr (pdf_lr2 rfl g_list g_range pd_int (pd_add rfl (pd_lenN rfl g_len 0) pd_int))))
  (psd_one (psd_for (L2.passes_of rfl) rfl (pid_list rfl (pd_var 1)) (pgd_name 2 sc_check_table.nd) (psd_one (psd_for (L2.passes_of rfl) rfl (pid_list rfl (pd_var 1)) (pgd_name 3 sc_check_table.nd) (psd_one (psd_if (ptd_not (pt_tru rfl (pd_call rfl c_can_standX hr (by decide) (pad_cons (pd_var 0) (pad_cons (pd_var 2) (pad_cons (pd_var 3) pad_nil)))))) (psd_one (psd_raise rfl rfl tk x_BadBonds hr (pd_tup (pad_cons (pd_var 2) (pad_cons (pd_var 3) pad_nil))))) psd_nil))))))))
end BW
namespace T7
open PySem L2 DL
abbrev s__law_draw : Stmt := BW.s__law_draw
def sp__law_mixed : DSp := fun ds k R => ∃ a n : Int, ds = [.int a, .int n] ∧ 0 ≤ a ∧ a < 1000000000000000 ∧ 0 ≤ n ∧ n < 1000000000000 ∧ ∀ r, 0 ≤ r → r < 306783377 → R (.int r) k
theorem sc__law_draw : FnScope ["m", "limit", "n", "lot", "here", "cell"] ["m", "limit"] (defScope s__law_draw) := ⟨rfl, rfl, rfl, by decide +kernel, rfl, by decide +kernel, by decide +kernel⟩
def sp__law_draw : DSp := fun ds k R => ∃ z : Int, ds = [.int z] ∧ 0 < z ∧ z < 2 ^ 200 ∧ k < 100000000000 ∧ ∀ d, 0 ≤ d → d < z → R (.int d) (k + 1)
structure Zt (hid X0 : List Addr) (H H' : Hp) : Prop where
  sub : Sub (wo H (hid ++ X0)) (wo H' (hid ++ X0))
  old : ∀ a ∈ X0, H' a = H a
  tb : TbK H H'
theorem Zt.refl {hid X0 : List Addr} {H : Hp} : Zt hid X0 H H := ⟨Sub.refl _, fun _ _ => rfl, .refl⟩
theorem Zt.trans {hid X0 : List Addr} {H H1 H2 : Hp} (a : Zt hid X0 H H1) (b : Zt hid X0 H1 H2) : Zt hid X0 H H2 := ⟨a.sub.trans b.sub, fun x h => (b.old x h).trans (a.old x h), a.tb.trans b.tb⟩
theorem Zt.new {hid X0 : List Addr} {H : Hp} {p : Addr} {o : HO} (hp : H p = none) (xs : ∀ a ∈ X0, H a ≠ none) : Zt hid X0 H (upd H p o) := ⟨wo_new hp, fun a ha => upd_ne fun z => xs a ha (by rw [z]; exact hp), .new hp⟩
theorem Zt.mut {hid X0 : List Addr} {H : Hp} {p : Addr} {o : HO} (hp : p ∈ hid) (xm : ∀ a ∈ X0, a ∉ hid) (tb : TbK H (upd H p o)) : Zt hid X0 H (upd H p o) := ⟨wo_mut (List.mem_append_left _ hp), fun a ha => upd_ne fun z => xm a ha (by rw [z]; exact hp), tb⟩
section
variable {P : Program} {w : World} {K : PySem.W.Frag} {mg : PySem.Str → Option Value} {base : Heap}
theorem call_mixed {K : PySem.W.Frag} {H : Hp} {a n : Int} {Q : VK} {E : XK} {Y : List Addr} (xs : ∀ a ∈ Y, H a ≠ none) (xt : ∀ a ∈ Y, ∀ ps, H a ≠ some (.tbl ps)) (a0 : 0 ≤ a) (a1 : a < 1000000000000000) (n0 : 0 ≤ n) (n1 : n < 1000000000000) (h : ∀ r, 0 ≤ r → r < 306783377 → ∀ H', Sub (wo H Y) (wo H' Y) → (∀ a ∈ Y, H' a = H a) → TbK H H' → Q (.int r) H') :
    spD K false sp__law_mixed [.int a, .int n] H Q E := by
  refine ⟨none, Y, 0, [.int a, .int n], _, fun d _ => ∃ r, d = .int r ∧ 0 ≤ r ∧ r < 306783377, ⟨rfl, rfl⟩, ⟨fun _ _ => by simp [Ml], xs, trivial, .cons (.int _) (.cons (.int _) .nil), xt⟩, ⟨a, n, rfl, a0, a1, n0, n1, fun r r0 r1 => ⟨r, rfl, r0, r1⟩⟩, ?_⟩
  rintro d k' ⟨r, rfl, r0, r1⟩ v H' af er
  cases er.intE
  exact h r r0 r1 H' af.sub af.old af.tb
theorem ixN_nat {n j : Nat} (hj : j < n) : ixN n (j : Int) = some j := by
  unfold ixN
  rw [if_pos (by omega), if_pos (by omega)]
  simp
theorem mk_inv {n : Nat} {pc pg : Addr} : valV [((Sum.inr "cells" : Key), V.ref pc), (Sum.inr "great", .ref pg), (Sum.inr "spot", .int n)] (Sum.inr "spot") = some (.int n) := by rfl
theorem mk_gr {n : Int} {pc pg : Addr} : valV [((Sum.inr "cells" : Key), V.ref pc), (Sum.inr "great", .ref pg), (Sum.inr "spot", .int n)] (Sum.inr "great") = some (.ref pg) := by rfl
theorem mk_ce {n : Int} {pc pg : Addr} : valV [((Sum.inr "cells" : Key), V.ref pc), (Sum.inr "great", .ref pg), (Sum.inr "spot", .int n)] (Sum.inr "cells") = some (.ref pc) := by rfl
theorem mk_put {n j : Int} {pc pg : Addr} : putK [((Sum.inr "cells" : Key), V.ref pc), (Sum.inr "great", .ref pg), (Sum.inr "spot", .int n)] (Sum.inr "spot") (.int j) = [((Sum.inr "cells" : Key), V.ref pc), (Sum.inr "great", .ref pg), (Sum.inr "spot", .int j)] := by rfl
theorem ok__law_draw {f fm : Addr} {fd : FuncData} (F : Fun K "_law_draw" "_law_draw" s__law_draw f fd) (c__law_mixed : CalD P w K mg base 1 "_law_mixed" false sp__law_mixed) (g_len : mg "len" = none) (g_int : mg "int" = none) : FnOk P w K mg base CX0 2 f fd ["m", "limit"] (spD K true sp__law_draw) := by
  refine F.ok sc__law_draw (fun vs H Q E h => ?_) (fun cdv A outer s H vs Q E hr h => ?_)
  · obtain ⟨M, X0, k, ds, ws, R, ⟨m, _, rfl⟩, a, ⟨z, rfl, _⟩, _⟩ := h
    have := a.args.len
    rw [List.length_cons, this]
    rfl
  · obtain ⟨M, X0, k, ds, ws, R, ⟨m, rfl, rfl⟩, ⟨xm, xs, ⟨cs, gs, n, mo, hnk, htb⟩, ar, xt⟩, ⟨z, rfl, z0, z1, hk, hR⟩, fin⟩ := h
    cases ar with
    | cons e1 e2 =>
      cases e2
      cases e1.intE
      obtain ⟨fm, fdm, psm, Gm, hmm, kpm, bm⟩ := c__law_mixed.ex
      have hu := hu_of hr
      refine ⟨_, pss_cons (ps_set (i := 2) sc__law_draw.nd rfl (.inl rfl) (pe_dget hu (pv 0) pe_str (fun _ _ => rfl)))
        (pss_cons (ps_dput hu (pv 0) pe_str (pe_op op_add (pv 2) pe_int) rfl)
        (pss_cons (ps_if (pt_cmpR (op_neD hr.units) (pe_dget hu (pv 0) pe_str (fun _ _ => rfl)) (pe_lst pa_nil) (nomark _))
          (pss_cons (ps_set (i := 3) sc__law_draw.nd rfl (.inl rfl) (pe_dget hu (pv 0) pe_str (fun _ _ => rfl)))
          (pss_cons (ps_set (i := 4) sc__law_draw.nd rfl (.inl rfl) (pe_op op_mod (pe_callTy call_int1 rfl g_int PyProof.Rows.boot_int (pa_cons (pv 2) pa_nil)) (pe_callB call_len_seq rfl g_len PySem.boot_len (pa_cons (pv 3) pa_nil))))
          (pss_cons (ps_set (i := 5) sc__law_draw.nd rfl (.inl rfl) (pe_ix ix_list (pv 3) (pv 4) (fun _ _ => rfl)))
          (pss_one (ps_if (pt_cmpR op_gt (pv 5) pe_int (nomark _))
            (pss_cons (ps_asg (pe_op op_fdivW (pv 5) (pv 1)) (pg_sub (pv 3) (pv 4) set_list)) (pss_one (ps_ret (pe_op op_mod (pe_callTy call_int1 rfl g_int PyProof.Rows.boot_int (pa_cons (pv 5) pa_nil)) (pv 1)))))
            pss_nil)))))
          pss_nil)
        (pss_cons (ps_set (i := 3) sc__law_draw.nd rfl (.inl rfl) (pe_dget hu (pv 0) pe_str (fun _ _ => rfl)))
        (pss_one (ps_ret (pe_op op_mod (pe_callTy call_int1 rfl g_int PyProof.Rows.boot_int (pa_cons (pe_call Gm hr rfl hmm kpm bm .nil pass0 (pa_cons (pe_call Gm hr rfl hmm kpm bm .nil pass0 (pa_cons (pe_op op_add (pe_ix ix_list (pv 3) (pe_op op_mod (pe_callTy call_int1 rfl g_int PyProof.Rows.boot_int (pa_cons (pv 2) pa_nil)) pe_int) (fun _ _ => rfl)) (pe_op op_mul pe_int (pe_op op_fdiv (pv 2) pe_int))) (pa_cons (pv 2) pa_nil)))
          (pa_cons (pe_op op_add (pv 2) pe_int) pa_nil))) pa_nil)) (pv 1))))))), ?_⟩
      have ne1 : m.pg ≠ m.pm := fun q => by have h := mo.hg; rw [q, mo.hm] at h; cases h
      have ne2 : m.pc ≠ m.pm := fun q => by have h := mo.hc; rw [q, mo.hm] at h; cases h
      have npcg : m.pc ≠ m.pg := fun q => by
        have h := mo.hg
        rw [← q, mo.hc] at h
        have h := congrArg List.length (HO.lst.inj (Option.some.inj h))
        rw [List.length_map, List.length_map, mo.lc] at h
        have := mo.lg
        omega
      have in1 : m.pm ∈ Ml (some m) := by simp [Ml]
      have in2 : m.pg ∈ Ml (some m) := by simp [Ml]
      -- n = m['spot']; m['spot'] = n + 1
      refine ⟨_, rfl, _, _, rfl, (mk_inv (n := n)) ▸ DGet.k (k := Sum.inr "spot") mo.hm, ?_⟩
      refine ⟨_, rfl, _, _, rfl, rfl, _, rfl, _, _, rfl, DPut.k (k := Sum.inr "spot") mo.hm (by show 3 < sizeLine; decide), ?_⟩
      rw [mk_put]
      generalize hH1 : upd H m.pm (.dK [((Sum.inr "cells" : Key), V.ref m.pc), (Sum.inr "great", .ref m.pg), (Sum.inr "spot", .int ((n : Int) + 1))]) = H1
      have hm1 : H1 m.pm = some (.dK [((Sum.inr "cells" : Key), V.ref m.pc), (Sum.inr "great", .ref m.pg), (Sum.inr "spot", .int ((n : Int) + 1))]) := by rw [← hH1]; exact upd_same
      have hc1 : H1 m.pc = some (.lst (cs.map V.int)) := by rw [← hH1, upd_ne ne2]; exact mo.hc
      have hg1 : H1 m.pg = some (.lst (gs.map V.int)) := by rw [← hH1, upd_ne ne1]; exact mo.hg
      have z01 : Zt (Ml (some m)) X0 H H1 := by rw [← hH1]; exact Zt.mut in1 xm (.at_ mo.hm)
      have xs1 : ∀ a ∈ X0, H1 a ≠ none := fun a ha => by rw [z01.old a ha]; exact xs a ha
      clear hH1
      -- m['great'] != []
      refine ⟨_, rfl, _, _, rfl, mk_gr (n := (n : Int) + 1) ▸ DGet.k (k := Sum.inr "great") hm1, Nat.zero_le _, fun p hp => ?_⟩
      generalize hH2 : upd H1 p (.lst []) = H2
      have kp : Sub H1 H2 := fun b o e => by rw [← hH2, upd_ne (ne_of_none e hp)]; exact e
      have hm2 := kp _ _ hm1
      have hc2 := kp _ _ hc1
      have hg2 := kp _ _ hg1
      have z02 : Zt (Ml (some m)) X0 H H2 := z01.trans (by rw [← hH2]; exact Zt.new hp xs1)
      have xs2 : ∀ a ∈ X0, H2 a ≠ none := fun a ha => by rw [z02.old a ha]; exact xs a ha
      have np : H2 p = some (.lst []) := by rw [← hH2]; exact upd_same
      clear hH2
      have dp : Dp K H2 (.ref m.pg) (.list (gs.map PyData.int)) := by
        have q := Rl.dp (K := K) (H := H2) (.lst (gs.map D.int)) (.lst hg2 (RlA.ints gs)) (plain_ints gs)
        show Dp K H2 (.ref m.pg) (.list (gs.map PyData.int))
        rw [← py_ints gs]
        exact q
      have sh : SeqAt.shaped (.list (gs.map PyData.int)) = true := by
        have q := okE_lstI gs
        unfold D.okE at q
        have q2 := (Bool.and_eq_true_iff.mp q).2
        have e : (D.lst (gs.map D.int)).py = .list (gs.map PyData.int) := by
          show PyData.list (pyA (gs.map D.int)) = _
          rw [py_ints]
        rw [e] at q2
        exact q2
      refine ⟨.list (gs.map PyData.int), .list [], dp, .lst (SqL.of np) .nil, sh, by decide, _, rfl, ?_⟩
      have ev : PyData.eqv (.list (gs.map PyData.int)) (.list []) = decide (gs = []) := by
        have q := eqv_ints gs []
        exact q
      rw [ev]
      -- the end: a remainder of something by z
      have fin' : ∀ (r : Int) (H' : Hp), Zt (Ml (some m)) X0 H H' → (∃ cs gs, MOk m H' cs gs (n + 1)) → Q (.int (r % z)) H' := fun r H' zt ⟨cs', gs', mo'⟩ =>
        fin (.int (r % z)) (k + 1) (hR _ (Int.emod_nonneg _ (by omega)) (Int.emod_lt_of_pos _ z0)) _ H' ⟨zt.sub, zt.old, ⟨cs', gs', n + 1, mo', by omega, zt.tb.tabs _ htb⟩, zt.tb⟩ (.int _)
      -- behind the if: a cell is mixed
      have low : ∀ v : Option V, ∀ v4 v5 : Option V, (tSeq (tAsg (tDGet (tVar 0) (tC (.str "cells"))) (gName 3)) (tRet (tOp (rI (fun _ j => 0 < j) fun i j => .int (i % j)) (tCB (fun xs H Q => (∃ i, xs = [.int i] ∧ Q (.int i) H) ∨ ∃ k, xs = [.bl k] ∧ Q (.int (if k then 1 else 0)) H) (tCons (tCall (spD K false sp__law_mixed) [] E0 (tCons (tCall (spD K false sp__law_mixed) [] E0 (tCons (tOp (rI0 fun i j => .int (i + j)) (tOp (rIxL K) (tVar 3) (tOp (rI (fun _ j => 0 < j) fun i j => .int (i % j)) (tCB (fun xs H Q => (∃ i, xs = [.int i] ∧ Q (.int i) H) ∨ ∃ k, xs = [.bl k] ∧ Q (.int (if k then 1 else 0)) H) (tCons (tVar 2) tNil)) (tC (.int 64)))) (tOp (rI CMul fun i j => .int (i * j)) (tC (.int 31)) (tOp (rI CDiv fun i j => .int (i / j)) (tVar 2) (tC (.int 64))))) (tCons (tVar 2) tNil))) (tCons (tOp (rI0 fun i j => .int (i + j)) (tVar 2) (tC (.int 7))) tNil))) tNil)) (tVar 1))))
          { nx := fun _ H' => Q .non H', rt := Q } [some (.ref m.pm), some (.int z), some (.int n), v, v4, v5] H2 := fun v v4 v5 => by
        refine ⟨_, rfl, _, _, rfl, mk_ce (n := (n : Int) + 1) ▸ DGet.k (k := Sum.inr "cells") hm2, ?_⟩
        have hi : n % 64 < cs.length := by rw [mo.lc]; exact Nat.mod_lt _ (by decide)
        obtain ⟨x, hx⟩ : ∃ x, cs[n % 64]? = some x := ⟨cs[n % 64], by simp [hi]⟩
        have bx := mo.bc x (List.mem_of_getElem? hx)
        refine ⟨_, rfl, _, rfl, .inl ⟨_, rfl, _, _, rfl, rfl, by show (0 : Int) < 64; decide, _, _, _, V.int x, rfl, rfl, SqL.of hc2, ?_, ?_⟩⟩
        · have e : ((n : Int) % 64) = ((n % 64 : Nat) : Int) := by omega
          rw [e]
          exact atI_nat (by rw [List.getElem?_map, hx]; rfl)
        refine ⟨_, rfl, _, _, rfl, rfl, ⟨by decide, by decide⟩, _, _, rfl, rfl, .inl ⟨by decide, by decide⟩, _, _, rfl, rfl, _, rfl, ?_⟩
        have hY : ∀ a ∈ Ml (some m) ++ X0, H2 a ≠ none := fun a ha => by
          rcases List.mem_append.mp ha with ha | ha
          · simp [Ml] at ha
            rcases ha with rfl | rfl | rfl
            · rw [hm2]; simp
            · rw [hc2]; simp
            · rw [hg2]; simp
          · exact xs2 a ha
        have tY : ∀ a ∈ Ml (some m) ++ X0, ∀ ps, H2 a ≠ some (.tbl ps) := fun a ha ps => by
          rcases List.mem_append.mp ha with ha | ha
          · simp [Ml] at ha
            rcases ha with rfl | rfl | rfl
            · rw [hm2]; intro e; cases e
            · rw [hc2]; intro e; cases e
            · rw [hg2]; intro e; cases e
          · rw [z02.old a ha]; exact xt a ha ps
        refine call_mixed (E := E0) hY tY (by omega) (by omega) (by omega) (by omega) fun r r0 r1 H3 s3 o3 t3 => ?_
        refine ⟨_, rfl, _, _, rfl, rfl, ?_⟩
        refine call_mixed (E := E0) (fun a ha => by rw [o3 a ha]; exact hY a ha) (fun a ha => by rw [o3 a ha]; exact tY a ha) (by omega) (by omega) (by omega) (by omega) fun r' r0' r1' H4 s4 o4 t4 => ?_
        refine .inl ⟨_, rfl, _, rfl, _, _, rfl, rfl, z0, ?_⟩
        have o24 : ∀ a ∈ Ml (some m) ++ X0, H4 a = H2 a := fun a ha => (o4 a ha).trans (o3 a ha)
        have z04 : Zt (Ml (some m)) X0 H H4 := z02.trans ⟨s3.trans s4, fun a ha => o24 a (List.mem_append_right _ ha), t3.trans t4⟩
        exact fin' r' H4 z04 ⟨cs, gs, ⟨(o24 _ (by simp [Ml])).trans hm2, (o24 _ (by simp [Ml])).trans hc2, (o24 _ (by simp [Ml])).trans hg2, mo.lc, mo.bc, mo.lg, mo.bg⟩⟩
      by_cases hgs : gs = []
      · rw [decide_eq_true hgs]
        exact iteF (low _ _ _)
      · rw [decide_eq_false hgs]
        refine iteT ?_
        have lp : 0 < gs.length := List.length_pos_iff.mpr hgs
        refine ⟨_, rfl, _, _, rfl, mk_gr (n := (n : Int) + 1) ▸ DGet.k (k := Sum.inr "great") hm2, ?_⟩
        refine ⟨_, rfl, .inl ⟨_, rfl, _, rfl, _, _, rfl, .inl (SqL.of hg2), _, _, rfl, rfl, by rw [List.length_map]; omega, ?_⟩⟩
        have hi : n % gs.length < gs.length := Nat.mod_lt _ lp
        obtain ⟨x, hx⟩ : ∃ x, gs[n % gs.length]? = some x := ⟨gs[n % gs.length], by simp [hi]⟩
        have bx := mo.bg x (List.mem_of_getElem? hx)
        have en : ((n : Int) % ((gs.map V.int).length : Int)) = ((n % gs.length : Nat) : Int) := by rw [List.length_map]; omega
        refine ⟨_, rfl, _, rfl, _, _, _, V.int x, rfl, rfl, SqL.of hg2, by rw [en]; exact atI_nat (by rw [List.getElem?_map, hx]; rfl), ?_⟩
        refine ⟨_, rfl, _, _, rfl, rfl, _, rfl, ?_⟩
        by_cases hx0 : 0 < x
        · rw [decide_eq_true hx0]
          refine iteT ?_
          refine ⟨_, rfl, _, rfl, _, _, rfl, rfl, ⟨z0, ?_⟩, _, rfl, _, rfl, _, _, _, n % gs.length, rfl, rfl, hg2, ?_, ?_⟩
          · have : z.natAbs < 2 ^ 200 := by omega
            exact Nat.lt_of_lt_of_le (PySem.Flt.log2_lt_of (by decide) this) (by decide)
          · rw [en]; exact ixN_nat (by rw [List.length_map]; exact hi)
          · refine ⟨_, rfl, .inl ⟨_, rfl, _, rfl, _, _, rfl, rfl, z0, ?_⟩⟩
            have ne3 : m.pc ≠ m.pg := npcg
            refine fin' x _ (z02.trans (Zt.mut in2 xm (.at_ hg2))) ⟨cs, gs.set (n % gs.length) (x / z), ⟨?_, ?_, ?_, mo.lc, mo.bc, ?_, ?_⟩⟩
            · rw [upd_ne ne1.symm]; exact hm2
            · rw [upd_ne ne3]; exact hc2
            · rw [upd_same, List.map_set]
            · rw [List.length_set]; exact mo.lg
            · intro y hy
              rcases List.mem_or_eq_of_mem_set hy with h | h
              · exact mo.bg y h
              · rw [h]; exact Int.ediv_nonneg (by omega) (by omega)
        · rw [decide_eq_false hx0]
          exact iteF (low _ _ _)
end
end T7
namespace T7
open PySem L2 DL PyProof.Rows
abbrev s__law_folded : Stmt := BW.s__law_folded
theorem sc__law_folded : FnScope ["script", "found", "n", "cell"] ["script"] (defScope s__law_folded) := ⟨rfl, rfl, rfl, by decide +kernel, rfl, by decide +kernel, by decide +kernel⟩
abbrev t__law_folded : DS := (dSeq (dSetO 1 (dLc (iR1 (dC (.int 64))) (dgN 2) dY (dOp oAdd (dC (.int 17)) (dVar 2)) [2]))
  (dSeq (dFor (iScE 0) (dgTup 2 (dgCons (dgN 2) (dgCons (dgN 3) dgNil))) (dSix 1 (dOp oMod (dInt (dVar 2)) (dC (.int 64))) (dOp oMod (dInt (dOp oAdd (dOp oMul (dIxN 1 (dOp oMod (dInt (dVar 2)) (dC (.int 64)))) (dC (.int 48271))) (dVar 3))) (dC (.int 2147483647)))))
  (dSeq (dFor (iR2 (dC (.int 1)) (dC (.int 64))) (dgN 2) (dSix 1 (dVar 2) (dOp oMod (dInt (dOp oAdd (dIxN 1 (dVar 2)) (dOp oMul (dIxN 1 (dOp oSub (dVar 2) (dC (.int 1)))) (dC (.int 16807))))) (dC (.int 2147483647)))))
  (dRet (dVar 1)))))
theorem w__law_folded {P : Program} {w : World} {K : PySem.W.Frag} {mg : PySem.Str → Option Value} {base : Heap} (g_range : mg "range" = none) (g_enumerate : mg "enumerate" = none) (g_int : mg "int" = none) (qual : PySem.Str) (f : Addr) (cdv : Value) (A : Around) (outer : List Env) (s : Shared) (H : Hp) (E : XK) (M : Option Mc) (X0 : List Addr)
    (hr : Room 0 (A.deeper (PyProof.Rows.envOfC qual (defScope s__law_folded) s.heap.objs.size f cdv))) :
    PSs (cxOf CX0 P w K mg base ["script", "found", "n", "cell"] qual (defScope s__law_folded) f cdv A outer s H E).nox (defBody s__law_folded) (LS ⟨K, M, X0, H, [1]⟩ t__law_folded) :=
  (psd_cons (psd_setLcO 1 (own := [("n", 2)]) rfl sc__law_folded.nd (pid_r1 g_range pd_int) (blkOk_by (N := ["script", "found", "n", "cell"]) (sc := defScope s__law_folded) (by decide +kernel)) (fun _ _ _ _ _ => (pgd_name 2 sc__law_folded.nd)) (fun _ _ _ _ _ => pts_none) (fun _ _ _ _ _ => (pd_add rfl pd_int (pd_var 2))))
  (psd_cons (psd_for PassesOwn.never rfl (pid_scrE rfl 0 g_enumerate) (pgd_tup rfl rfl (pgds_cons (pgd_name 2 sc__law_folded.nd) (pgds_cons (pgd_name 3 sc__law_folded.nd) pgds_nil))) (psd_one (psd_six 1 (pd_mod (pd_int1 g_int (pd_var 2)) pd_int) (pd_mod (pd_int1 g_int (pd_add rfl (pd_mul rfl (pd_ixN rfl 1 (pd_mod (pd_int1 g_int (pd_var 2)) pd_int)) pd_int) (pd_var 3))) pd_int))))
  (psd_cons (psd_for PassesOwn.never rfl (pid_r2 g_range pd_int pd_int) (pgd_name 2 sc__law_folded.nd) (psd_one (psd_six 1 (pd_var 2) (pd_mod (pd_int1 g_int (pd_add rfl (pd_ixN rfl 1 (pd_var 2)) (pd_mul rfl (pd_ixN rfl 1 (pd_sub (pd_var 2) pd_int)) pd_int))) pd_int))))
  (psd_one (psd_ret (pd_var 1))))))
def sp__law_folded : List Int → (D → Prop) → Prop := fun ns R => ∀ cs : List Int, cs.length = 64 → (∀ x ∈ cs, 0 ≤ x ∧ x < 2147483647) → R (.lst (cs.map .int))
theorem r__law_folded (ns : List Int) (R : D → Prop) (h : sp__law_folded ns R) : t__law_folded { nx := fun _ => R .non, rt := fun d _ => R d } ⟨[], .scr ns :: List.replicate (4 - 1) .no, 0⟩ := by
  refine ⟨_, rfl, by decide, by decide, by decide, fun p hp => ⟨fun i acc k => k = 0 ∧ ∃ cs : List Int, acc = cs.map .int ∧ cs.length = i ∧ ∀ x ∈ cs, 0 ≤ x ∧ x < 2147483647, ?_, ?_, ?_⟩⟩
  · exact ⟨rfl, [], rfl, rfl, fun _ h => (nomatch h)⟩
  · rintro i d acc k hd ⟨rfl, cs, rfl, rfl, hc⟩ hl
    obtain ⟨hi, rfl⟩ := rngD_at hd
    have hi : cs.length < 64 := hi
    refine iteT ⟨_, rfl, ?_⟩
    refine ⟨rfl, cs ++ [17 + (0 + (cs.length : Int))], ?_, by simp, ?_⟩
    · rw [List.map_append]; rfl
    · intro x hx
      rcases List.mem_append.mp hx with h | h
      · exact hc x h
      · simp at h
        omega
  · rintro acc k ⟨rfl, cs, rfl, hc, hb⟩ hl q hq
    have hc : cs.length = 64 := by rw [hc, rngD_len]; rfl
    refine ⟨ns, rfl, fun i s' => ∃ (cs : List Int) (x y : Sl), s' = ⟨[q], [.scr ns, .own q (cs.map .int), x, y], 0⟩ ∧ cs.length = 64 ∧ ∀ x ∈ cs, 0 ≤ x ∧ x < 2147483647, ?_, ?_, ?_⟩
    · exact ⟨cs, _, _, rfl, hc, hb⟩
    · rintro i d s' hd ⟨cs, x, y, rfl, hc, hb⟩
      obtain ⟨e, he, rfl⟩ := enum_at hd
      rw [List.getElem?_map] at he
      obtain ⟨c, hc', rfl⟩ := Option.map_eq_some_iff.mp he
      refine ⟨rfl, rfl, ?_⟩
      have hj : i % 64 < cs.length := by rw [hc]; exact Nat.mod_lt _ (by decide)
      obtain ⟨v, hv⟩ : ∃ v, cs[i % 64]? = some v := ⟨cs[i % 64], by simp [hj]⟩
      have bv := hb v (List.mem_of_getElem? hv)
      have ei : (((0 + i : Nat) : Int) % 64) = ((i % 64 : Nat) : Int) := by omega
      have hv' : (cs.map D.int)[i % 64]? = some (.int v) := by rw [List.getElem?_map, hv]; rfl
      refine ⟨_, _, rfl, ?_⟩
      refine ⟨_, rfl, _, rfl, _, rfl, by omega, _, .int v, rfl, by rw [ei]; exact atI_nat hv', ?_⟩
      refine ⟨Or.inl ⟨by omega, by omega⟩, _, rfl, _, rfl, by omega, ?_⟩
      refine ⟨_, rfl, _, rfl, by omega, _, _, rfl, by rw [ei]; exact ixN_nat (by rw [List.length_map]; exact hj), ?_⟩
      refine ⟨cs.set (i % 64) ((v * 48271 + c) % 2147483647), _, _, by rw [List.map_set]; rfl, by rw [List.length_set]; exact hc, fun z hz => ?_⟩
      rcases List.mem_or_eq_of_mem_set hz with h | h
      · exact hb z h
      · omega
    · rintro s' ⟨cs, x, y, rfl, hc, hb⟩
      refine ⟨_, _, rfl, rfl, ⟨by decide, by decide, by decide, by decide⟩, fun i s' => ∃ (cs : List Int) (x : Sl), s' = ⟨[q], [.scr ns, .own q (cs.map .int), x, y], 0⟩ ∧ cs.length = 64 ∧ ∀ x ∈ cs, 0 ≤ x ∧ x < 2147483647, ⟨cs, _, rfl, hc, hb⟩, ?_, ?_⟩
      · rintro i d s' hd ⟨cs, x, rfl, hc, hb⟩
        obtain ⟨hi, rfl⟩ := rngD_at hd
        have hi : i < 63 := hi
        have j1 : i + 1 < cs.length := by omega
        have j0 : i < cs.length := by omega
        obtain ⟨v, hv⟩ : ∃ v, cs[i + 1]? = some v := ⟨cs[i + 1], by simp [j1]⟩
        obtain ⟨u, hu⟩ : ∃ u, cs[i]? = some u := ⟨cs[i], by simp [j0]⟩
        have bv := hb v (List.mem_of_getElem? hv)
        have bu := hb u (List.mem_of_getElem? hu)
        have hv' : (cs.map D.int)[i + 1]? = some (.int v) := by rw [List.getElem?_map, hv]; rfl
        have hu' : (cs.map D.int)[i]? = some (.int u) := by rw [List.getElem?_map, hu]; rfl
        have e1 : (1 + (i : Int)) = ((i + 1 : Nat) : Int) := by omega
        have e0 : (1 + (i : Int) - 1) = (i : Int) := by omega
        refine ⟨_, _, rfl, ?_⟩
        refine ⟨_, rfl, _, rfl, _, .int v, rfl, by rw [e1]; exact atI_nat hv', ?_⟩
        refine ⟨_, rfl, _, rfl, _, .int u, rfl, by rw [e0]; exact atI_nat hu', ?_⟩
        refine ⟨Or.inl ⟨by omega, by omega⟩, _, rfl, by omega, ?_⟩
        refine ⟨_, rfl, _, _, rfl, by rw [e1]; exact ixN_nat (by rw [List.length_map]; exact j1), ?_⟩
        refine ⟨cs.set (i + 1) ((v + u * 16807) % 2147483647), _, by rw [List.map_set]; rfl, by rw [List.length_set]; exact hc, fun z hz => ?_⟩
        rcases List.mem_or_eq_of_mem_set hz with h | h
        · exact hb z h
        · omega
      · rintro s' ⟨cs, x, rfl, hc, hb⟩ X
        exact ⟨_, rfl, h cs hc hb⟩
theorem ok__law_folded {P : Program} {w : World} {K : PySem.W.Frag} {mg : PySem.Str → Option Value} {base : Heap} {f : Addr} {fd : FuncData} (F : Fun K "_law_folded" "_law_folded" s__law_folded f fd) (g_range : mg "range" = none) (g_enumerate : mg "enumerate" = none) (g_int : mg "int" = none) : FnOk P w K mg base CX0 1 f fd ["script"] (spS K sp__law_folded) :=
  okS F sc__law_folded [1] ⟨t__law_folded, fun cdv A outer s H E hr => w__law_folded g_range g_enumerate g_int _ f cdv A outer s H E none [] hr, r__law_folded⟩
end T7
namespace T7
open PySem L2 DL
abbrev s__law_begun : Stmt := BW.s__law_begun
theorem sc__law_begun : FnScope ["script", "m", "cell"] ["script"] (defScope s__law_begun) := ⟨rfl, rfl, rfl, by decide +kernel, rfl, by decide +kernel, by decide +kernel⟩
def spBegun (K : PySem.W.Frag) : Sp := fun vs H Q _ => ∃ (a : Addr) (ns : List Int), vs = [.ref a] ∧ SqL K H a (ns.map V.int) ∧ ns.length ≤ 63 ∧ ∀ (m : Mc) (H' : Hp) (cs gs : List Int), TbK H H' → MOk m H' cs gs 0 → Q (.ref m.pm) H'
theorem PE.ex {X : Cx} {e : Expr} {K : PySem.W.Frag} {f : C → TE} (h : ∀ c, c.K = K → PE X e (f c)) : PE X e (fun σ H Q => ∃ c, c.K = K ∧ f c σ H Q) := ⟨fun pins s σ H Q I ⟨c, hc, q⟩ => (h c hc).run pins s σ H Q I q⟩
theorem rep0 {K : PySem.W.Frag} {H : Hp} {a : Addr} {ns : List Int} {σ : L2.St} {n : Nat} (h : SqL K H a (ns.map V.int)) (e : σ[0]? = some (some (.ref a))) (hl : σ.length = n + 1) : Rep ⟨K, none, [], H, []⟩ ⟨[], .scr ns :: List.replicate n .no, 0⟩ σ H := by
  refine ⟨Sub.refl _, fun _ h => (nomatch h), fun _ h => h, fun _ h => (nomatch h), fun _ h => (nomatch h), trivial, fun i z e' => ?_, fun i j p q ds es e' _ _ => ?_, ?_, .refl, fun _ h => (nomatch h)⟩
  · cases i with
    | zero =>
      obtain rfl : Sl.scr ns = z := Option.some.inj e'
      exact ⟨a, e, sl_in h⟩
    | succ i =>
      have e' : (List.replicate n Sl.no)[i]? = some z := e'
      rw [List.getElem?_replicate] at e'
      split at e'
      · cases e'; trivial
      · cases e'
  · have e' : (Sl.scr ns :: List.replicate n Sl.no)[i]? = some (.own p ds) := e'
    have mem := List.mem_of_getElem? e'
    simp at mem
  · show (Sl.scr ns :: List.replicate n Sl.no).length = σ.length
    simp [hl]
section
variable {P : Program} {w : World} {K : PySem.W.Frag} {mg : PySem.Str → Option Value} {base : Heap}
theorem ok__law_begun {f ff : Addr} {fd fdf : FuncData} (F : Fun K "_law_begun" "_law_begun" s__law_begun f fd) (Gf : FnOk P w K mg base CX0 1 ff fdf ["script"] (spS K sp__law_folded)) (hmf : mg "_law_folded" = some (.ref ff)) (kpf : PySem.W.keepIn K (.ref ff) = true) (bf : Binds K fdf ["script"] []) : FnOk P w K mg base CX0 2 f fd ["script"] (spBegun K) := by
  refine F.ok sc__law_begun (fun vs H Q E h => ?_) (fun cdv A outer s H vs Q E hr h => ?_)
  · obtain ⟨a, ns, rfl, _⟩ := h
    rfl
  · obtain ⟨a, ns, rfl, ha, hl, fin⟩ := h
    have hu := hu_of hr
    refine ⟨_, pss_cons (ps_set (i := 1) sc__law_begun.nd rfl (.inl rfl) (pe_disp (pps_cons pe_str (pe_call Gf hr rfl hmf kpf bf .nil pass0 (pa_cons (pv 0) pa_nil)) (pps_cons pe_str (pe_lst pa_nil) (pps_cons pe_str pe_int pps_nil))) rfl rfl (by simp) (by decide)))
      (pss_cons (ps_dput hu (pv 1) pe_str (PE.ex (K := K) (f := fun c => LF c (dLc (iScr 0) (dgN 2) dY (dIf (dTB (dOp oGe (dVar 2) (dOp oPow (dC (.int 10)) (dC (.int 18))))) (dVar 2) (dC (.int 0))) [2])) fun c hc => (pdf_lc (own := [("cell", 2)]) rfl sc__law_begun.nd (pid_scr hc 0) (blkOk_by (N := ["script", "m", "cell"]) (sc := defScope s__law_begun) (by decide +kernel)) (fun _ _ _ _ _ => (pgd_name 2 sc__law_begun.nd)) (fun _ _ _ _ _ => pts_none) (fun _ _ _ _ _ => (pd_if (ptd_cmp op_ge fit_ge (pd_var 2) (pd_pow pd_int pd_int)) (pd_var 2) pd_int)))) rfl)
      (pss_one (ps_ret (pv 1)))), ?_⟩
    intro p hp
    have s1 : Sub H (upd H p (.dK [])) := fun b o e => by rw [upd_ne (ne_of_none e hp)]; exact e
    refine ⟨_, rfl, ?_⟩
    refine ⟨a, ns, fun d => ∃ cs : List Int, d = .lst (cs.map .int) ∧ cs.length = 64 ∧ ∀ x ∈ cs, 0 ≤ x ∧ x < 2147483647, rfl, s1.sl ha, fun cs h1 h2 => ⟨cs, rfl, h1, h2⟩, ?_⟩
    rintro d ⟨cs, rfl, hc, hb⟩ v H2 s2 t2 rv
    obtain ⟨pc, vs, rfl, hpc, ra⟩ := rv.lstE
    obtain rfl := ra.ints_v
    have p2 : H2 p = some (.dK []) := s2.out upd_same
    refine ⟨Nat.zero_le _, fun q hq => ?_⟩
    have nqp : p ≠ q := ne_of_none p2 hq
    refine ⟨by rw [upd_ne nqp]; exact p2, [(Sum.inr "cells", .ref pc), (Sum.inr "great", .ref q), (Sum.inr "spot", .int 0)], rfl, by show 3 ≤ 15; decide, ?_⟩
    have mk : mergeK [] [((Sum.inr "cells" : Key), V.ref pc), (Sum.inr "great", .ref q), (Sum.inr "spot", .int 0)] = [((Sum.inr "cells" : Key), V.ref pc), (Sum.inr "great", .ref q), (Sum.inr "spot", .int 0)] := by rfl
    rw [mk]
    generalize hH4 : upd (upd H2 q (.lst [])) p (.dK [((Sum.inr "cells" : Key), V.ref pc), (Sum.inr "great", .ref q), (Sum.inr "spot", .int 0)]) = H4
    have npc : pc ≠ p := fun z => by rw [z, p2] at hpc; cases hpc
    have p4 : H4 p = some (.dK [((Sum.inr "cells" : Key), V.ref pc), (Sum.inr "great", .ref q), (Sum.inr "spot", .int 0)]) := by rw [← hH4]; exact upd_same
    have c4 : H4 pc = some (.lst (cs.map V.int)) := by rw [← hH4, upd_ne npc, upd_ne (ne_of_none hpc hq)]; exact hpc
    have t4 : TbK H H4 := by
      rw [← hH4]
      exact (TbK.new hp).trans (t2.trans ((TbK.new hq).trans (TbK.at_ (by rw [upd_ne nqp]; exact p2))))
    have s4 : ∀ b o, NoTb o → H b = some o → H4 b = some o := fun b o n e => by
      rw [← hH4]
      have e2 := s2.out (s1 _ _ e) n
      rw [upd_ne (ne_of_none e hp), upd_ne (ne_of_none e2 hq)]
      exact e2
    have a4 : SqL K H4 a (ns.map V.int) := by
      rcases ha with (h | ⟨o, h⟩) | h
      · exact .inl (.inl (s4 _ _ (by intro _ z; cases z) h))
      · exact .inl (.inr ⟨o, s4 _ _ (by intro _ z; cases z) h⟩)
      · exact .inr h
    clear hH4
    refine ⟨⟨K, none, [], H4, []⟩, rfl, ⟨[], .scr ns :: List.replicate 2 .no, 0⟩, fun ds k => ∃ gs : List Int, ds = gs.map .int ∧ gs.length ≤ 63 ∧ ∀ x ∈ gs, 0 ≤ x, rep0 a4 rfl rfl, ?_, ?_⟩
    · refine ⟨ns, rfl, by rw [List.length_map]; exact Nat.le_trans hl (by decide), fun p hp => ⟨fun i acc k => ∃ gs : List Int, acc = gs.map .int ∧ gs.length = i ∧ ∀ x ∈ gs, 0 ≤ x, ⟨[], rfl, rfl, fun _ h => (nomatch h)⟩, ?_, ?_⟩⟩
      · rintro i d acc k hd ⟨gs, rfl, rfl, hb⟩ _
        rw [List.getElem?_map] at hd
        obtain ⟨c, hc', rfl⟩ := Option.map_eq_some_iff.mp hd
        have fin2 : ∀ z : Int, 0 ≤ z → ∃ gs' : List Int, gs.map D.int ++ [.int z] = gs'.map .int ∧ gs'.length = gs.length + 1 ∧ ∀ x ∈ gs', 0 ≤ x := fun z hz => ⟨gs ++ [z], by rw [List.map_append]; rfl, by simp, fun x hx => by
          rcases List.mem_append.mp hx with h | h
          · exact hb x h
          · simp at h; omega⟩
        refine iteT ⟨_, rfl, ⟨by decide, by decide, by decide⟩, _, rfl, ?_⟩
        by_cases h : ((10 : Int) ^ (18 : Int).toNat ≤ c)
        · rw [decide_eq_true h]
          exact iteT ⟨_, rfl, fin2 c (by have : (0 : Int) ≤ (10 : Int) ^ (18 : Int).toNat := by decide
                                         omega)⟩
        · rw [decide_eq_false h]
          exact iteF (fin2 0 (by decide))
      · rintro acc k ⟨gs, rfl, hg, hb⟩ _
        exact ⟨gs, rfl, by rw [hg, List.length_map]; exact hl, hb⟩
    · rintro ds k ⟨gs, rfl, hg, hb2⟩ g H5 nl
      obtain ⟨vs, hg5, ra5⟩ := nl.vals
      obtain rfl := ra5.ints_v
      have out : ∀ b o, NoTb o → H4 b = some o → H5 b = some o := fun b o n e => (wo_ne (nl.sub b o (wo_of (by simp [Ml]) e n))).2
      have p5 := out _ _ (by intro _ z; cases z) p4
      have c5 := out _ _ (by intro _ z; cases z) c4
      have ngp : p ≠ g := fun z => by rw [← z, p5] at hg5; cases hg5
      refine ⟨_, rfl, p, _, rfl, DPut.k (k := Sum.inr "great") p5 (by show 3 < sizeLine; decide), ?_⟩
      have mk2 : putK [((Sum.inr "cells" : Key), V.ref pc), (Sum.inr "great", .ref q), (Sum.inr "spot", .int 0)] (Sum.inr "great") (.ref g) = [((Sum.inr "cells" : Key), V.ref pc), (Sum.inr "great", .ref g), (Sum.inr "spot", .int 0)] := by rfl
      rw [mk2]
      --show tRet (tVar 1) _ _ (upd H5 p (.dK [((Sum.inr "cells" : Key), V.ref pc), (Sum.inr "great", .ref g), (Sum.inr "spot", .int 0)]))
      refine ⟨_, rfl, fin ⟨p, pc, g, []⟩ _ cs gs ?_ ⟨upd_same, by rw [upd_ne npc]; exact c5, by rw [upd_ne (Ne.symm ngp)]; exact hg5, hc, hb, hg, hb2⟩⟩
      exact t4.trans (nl.rep.tb.trans (.at_ p5))
end
end T7
namespace BW
open PySem L2 DL
abbrev t_kA : DE := dOp oIx (dFr (dLs (dCons (dC (.int 2)) (dCons (dC (.int 3)) (dCons (dC (.int 3)) (dCons (dC (.int 4)) (dCons (dC (.int 6)) (dCons (dC (.int 0)) (dCons (dC (.int 2)) (dCons (dC (.int 2)) dNil)))))))))) (dCallM 0 sp__law_draw (dCons (dC (.int 8)) dNil))
abbrev t_kB : DE := dIf (dOr (dTB (dOp oLt (dVar 6) (dOp oSub (dVar 2) (dC (.int 1))))) (dTB (dOp oEq (dVar 3) (dC (.int 2))))) (dC (.int 3)) (dOp oIx (dFr (dLs (dCons (dC (.int 3)) (dCons (dC (.int 4)) (dCons (dC (.int 6)) (dCons (dC (.int 0)) dNil)))))) (dCallM 0 sp__law_draw (dCons (dC (.int 4)) dNil)))
section
variable {P : Program} {w : World} {K : PySem.W.Frag} {mg : PySem.Str → Option Value} {base : Heap}
theorem ok__law_table {f : Addr} {fd : FuncData} (F : Fun K "_law_table" "_law_table" s__law_table f fd) (g_range : mg "range" = none) (c__law_draw : CalD P w K mg base 2 "_law_draw" true sp__law_draw) : FnOk P w K mg base CX0 3 f fd ["m", "most"] (spD K true sp__law_table) := by
  refine F.ok sc__law_table (fun vs H Q E h => ?_) (fun cdv A outer s H vs Q E hr h => ?_)
  · obtain ⟨M, X0, k, ds, ws, R, ⟨m, _, rfl⟩, a, ⟨most, rfl, _⟩, _⟩ := h
    have := a.args.len
    rw [List.length_cons, this]
    rfl
  · obtain ⟨M, X0, k, ds, ws, R, ⟨m, rfl, rfl⟩, ⟨xm, xs, hm, ar, xt⟩, ⟨most, rfl, mo1, mo6, hk, hR⟩, fin⟩ := h
    obtain rfl : ws = [V.int most] := RlA.ints_v (ns := [most]) ar
    clear ar
    refine ⟨_, pss_cons (PS.exL (K := K) (t := dSet 2 (dOp oAdd (dC (.int 1)) (dCallM 0 sp__law_draw (dCons (dVar 1) dNil)))) fun c hc => psd_set 2 sc__law_table.nd (pd_add hc pd_int (pd_callM hc c__law_draw hr (by decide) 0 (pad_cons (pd_var 1) pad_nil))))
    (pss_cons (PS.exL (K := K) (t := dSet 3 (dCallM 0 sp__law_draw (dCons (dC (.int 4)) dNil))) fun c hc => psd_set 3 sc__law_table.nd (pd_callM hc c__law_draw hr (by decide) 0 (pad_cons pd_int pad_nil)))
    (pss_cons (ps_setLc (i := 4) (own := [("a", 5)]) rfl sc__law_table.nd rfl rfl (sw_true rfl rfl rfl (by decide +kernel)) (pi_range1 rfl g_range (pa_cons (pv 2) pa_nil) rfl) (blkOk_by (N := ["m", "most", "many", "way", "rows", "a", "b", "kind"]) (sc := defScope s__law_table) (by decide +kernel)) (fun _ _ _ _ _ => pg_name (i := 5) sc__law_table.nd rfl (.inr rfl)) (fun _ _ _ _ _ => pts_nil) (fun _ _ _ _ _ => PE.exF (K := K) (t := t_in8) fun c hc => (pdf_lc (own := [("b", 6)]) rfl sc__law_table.nd (pid_r1 g_range (pd_var 2)) (blkOk_by (N := ["m", "most", "many", "way", "rows", "a", "b", "kind"]) (sc := inSc) (by decide +kernel)) (fun _ _ _ _ _ => (pgd_name 6 sc__law_table.nd)) (fun _ _ _ _ _ => pts_none) (fun _ _ _ _ _ => (pd_if (ptd_cmp (OpR.or op_eq (op_eqD hr.units)) (fit_eq hc) (pd_var 5) (pd_var 6)) pd_int pd_int)))))
    (pss_cons (ps_for PassesOwn.never rfl (pi_range1 rfl g_range (pa_cons (pv 2) pa_nil) rfl) (pg_name (i := 5) sc__law_table.nd rfl (.inl rfl))
      (pss_one (ps_for PassesOwn.never rfl (pi_range2 rfl g_range (pa_cons (pe_op op_add (pv 5) pe_int) (pa_cons (pv 2) pa_nil))) (pg_name (i := 6) sc__law_table.nd rfl (.inl rfl))
        (pss_cons (ps_set (i := 7) sc__law_table.nd rfl (.inl rfl) pe_int)
        (pss_cons (ps_if (PT.exT (K := K) (t := dTB (dOp oLt (dVar 3) (dC (.int 2)))) fun c hc => ptd_cmp op_lt fit_lt (pd_var 3) pd_int)
          (pss_one (ps_set (i := 7) sc__law_table.nd rfl (.inl rfl) (PE.exE (K := K) (t := t_kA) fun c hc => pd_ix hc (pd_fr (pdf_lst (pad_cons pd_int (pad_cons pd_int (pad_cons pd_int (pad_cons pd_int (pad_cons pd_int (pad_cons pd_int (pad_cons pd_int (pad_cons pd_int pad_nil)))))))))) (pd_callM hc c__law_draw hr (by decide) 0 (pad_cons pd_int pad_nil)))))
          (pss_one (ps_if (PT.exT (K := K) (t := dTB (dOp oEq (dVar 6) (dOp oAdd (dVar 5) (dC (.int 1))))) fun c hc => ptd_cmp (OpR.or op_eq (op_eqD hr.units)) (fit_eq hc) (pd_var 6) (pd_add hc (pd_var 5) pd_int))
            (pss_one (ps_set (i := 7) sc__law_table.nd rfl (.inl rfl) (PE.exE (K := K) (t := t_kB) fun c hc => pd_if (PW.pt (pwd_or (ptd_cmp op_lt fit_lt (pd_var 6) (pd_sub (pd_var 2) pd_int)) (pwd_or1 (ptd_cmp (OpR.or op_eq (op_eqD hr.units)) (fit_eq hc) (pd_var 3) pd_int)))) pd_int (pd_ix hc (pd_fr (pdf_lst (pad_cons pd_int (pad_cons pd_int (pad_cons pd_int (pad_cons pd_int pad_nil)))))) (pd_callM hc c__law_draw hr (by decide) 0 (pad_cons pd_int pad_nil))))))
            pss_nil)))
        (pss_one (ps_asg (pe_tup (pa_cons (pv 7) (pa_cons (pv 7) pa_nil))) (pg_tup rfl (pgs_cons (pg_sub (pe_ix ix_list (pv 4) (pv 5) (fun _ _ => rfl)) (pv 6) set_list) (pgs_cons (pg_sub (pe_ix ix_list (pv 4) (pv 6) (fun _ _ => rfl)) (pv 5) set_list) pgs_nil))))))))))
    (pss_one (ps_ret (pv 4)))))), ?_⟩
    have r0 : Rep ⟨K, some m, X0, H, []⟩ ⟨X0, [.mst, .dat (.int most), .no, .no, .no, .no, .no, .no], k⟩ (L2.start ["m", "most", "many", "way", "rows", "a", "b", "kind"] [V.ref m.pm, V.int most]) H := by
      refine rep_of xm xs xt rfl hm (fun i x e => ?_) (fun i p ds e => ?_)
      · match i, e with
        | 0, e => cases e; exact ⟨m, rfl, rfl⟩
        | 1, e => cases e; exact ⟨_, rfl, .int _⟩
        | 2, e => cases e; trivial
        | 3, e => cases e; trivial
        | 4, e => cases e; trivial
        | 5, e => cases e; trivial
        | 6, e => cases e; trivial
        | 7, e => cases e; trivial
      · have mem := List.mem_of_getElem? e
        simp at mem
    refine ⟨⟨K, some m, X0, H, []⟩, rfl, ⟨X0, [.mst, .dat (.int most), .no, .no, .no, .no, .no, .no], k⟩, ⟨fun s' => ∃ (n k' : Nat), 1 ≤ n ∧ n ≤ 6 ∧ (n : Int) ≤ most ∧ k ≤ k' ∧ k' ≤ k + 1 ∧ s' = ⟨X0, [.mst, .dat (.int most), .dat (.int n), .no, .no, .no, .no, .no], k'⟩, fun _ _ => False, fun _ => False, fun _ => False⟩, r0, ?_, ?_⟩
    · refine ⟨rfl, _, rfl, most, rfl, by omega, by omega, by show k < _; omega, fun d d0 d1 => ?_⟩
      obtain ⟨v, rfl⟩ : ∃ v : Nat, d = (v : Int) := ⟨d.toNat, by omega⟩
      refine ⟨v + 1, k + 1, by omega, by omega, by omega, by omega, by omega, ?_⟩
      rw [show ((v + 1 : Nat) : Int) = 1 + (v : Int) by omega]
      rfl
    refine ⟨?_, fun _ _ _ _ _ h => h.elim, fun _ _ _ _ _ h => h.elim, fun _ _ _ _ _ _ h => h.elim⟩
    rintro s' σ1 H1 r1 a1 ⟨n, k1, n1, n6, nm, k1a, k1b, rfl⟩
    refine ⟨⟨K, some m, X0, H, []⟩, rfl, _, ⟨fun s' => ∃ (way : Int) (k' : Nat), k ≤ k' ∧ k' ≤ k + 2 ∧ s' = ⟨X0, [.mst, .dat (.int most), .dat (.int n), .dat (.int way), .no, .no, .no, .no], k'⟩, fun _ _ => False, fun _ => False, fun _ => False⟩, r1, ?_, ?_⟩
    · exact ⟨rfl, 4, rfl, by decide, by decide, by show k1 < _; omega, fun d d0 d1 => ⟨d, k1 + 1, by omega, by omega, rfl⟩⟩
    refine ⟨?_, fun _ _ _ _ _ h => h.elim, fun _ _ _ _ _ h => h.elim, fun _ _ _ _ _ _ h => h.elim⟩
    rintro s' σ H1' r2 a2 ⟨way, k2, k2a, k2b, rfl⟩
    clear r1 a1 a2 r0
    obtain ⟨m', hm', e0⟩ := r2.slot 0 _ rfl
    cases hm'
    obtain ⟨v2, e2, rv2⟩ := r2.slot 2 _ rfl
    cases rv2.intE
    obtain ⟨v3, e3, rv3⟩ := r2.slot 3 _ rfl
    cases rv3.intE
    have hl : σ.length = 8 := r2.len.symm
    have kp1 : Keep (some m) X0 H H1' := Keep.rep r2 xm xs
    have hm1 : MAt (some m) H1' k2 := r2.m
    have mlH : ∀ a, H a = none → a ∉ Ml (some m) := fun a ha z => hm.there a z ha
    clear r2
    show tSeq (tAsg (tLc (iRng1 (tCons (tVar 2) tNil)) (gName 5) tYes (exLF K t_in8) [5]) (gName 4)) _ _ σ H1'
    refine seqAsg ?_
    have xs1 : ∀ a ∈ Ml (some m) ++ X0, H1' a ≠ none := fun a ha => (List.mem_append.mp ha).elim (hm1.there a) fun h => by rw [kp1.old a h]; exact xs a h
    have xt1 : ∀ a ∈ Ml (some m) ++ X0, ∀ ps, H1' a ≠ some (.tbl ps) := fun a ha => (List.mem_append.mp ha).elim (hm1.noTb a) fun h => by rw [kp1.old a h]; exact xt a h
    refine nest_tab xs1 xt1 n6 e2 hl fun p qs H2 kp hp hq mx => ?_
    have fresh : ∀ a, H1' a = none → H a = none := fun a ha => by
      by_cases z : a ∈ Ml (some m)
      · exact absurd ha (hm1.there a z)
      · exact kp1.fresh z ha
    have hp0 := fresh p hp
    have hq0 : ∀ q ∈ qs, H q = none := fun q h => fresh q (hq q h)
    have mp := mlH p hp0
    have mq : ∀ q ∈ qs, q ∉ Ml (some m) := fun q h => mlH q (hq0 q h)
    have kp2 : Keep (some m) X0 H H2 := kp1.trans ⟨fun a o _ e t => kp.at (by simp [Ml]) e t, kp.tb, fun a ha => kp.old a (List.mem_append_right _ ha)⟩
    have hm2 : MAt (some m) H2 k2 := hm1.eq (fun a ha _ => kp.old a (List.mem_append_left _ ha)) kp.tb
    have g4 : ∀ i, i ≠ 4 → (σ.set 4 (some (V.ref p)))[i]? = σ[i]? := fun i hi => List.getElem?_set_ne (fun z => hi z.symm)
    have s8 : S8 m n way p (σ.set 4 (some (V.ref p))) := ⟨by rw [List.length_set]; exact hl, (g4 0 (by decide)).trans e0, (g4 2 (by decide)).trans e2, (g4 3 (by decide)).trans e3, List.getElem?_set_self (by rw [hl]; decide)⟩
    rw [fm_id] at mx
    -- the heap moves with the machine alone
    have mxK : ∀ {H' H'' : Hp} {g : Nat → Nat → Int}, Mx H' p qs (fm n g) → Keep (some m) X0 H' H'' → Mx H'' p qs (fm n g) := fun {H' H'' g} x kk => ⟨kk.at mp x.top, x.len, fun i q r h1 h2 => kk.at (mq q (List.mem_of_getElem? h1)) (x.row i q r h1 h2), x.nd, x.out⟩
    have xsK : ∀ {H' : Hp}, Keep (some m) X0 H H' → ∀ a ∈ X0, H' a ≠ none := fun {H'} k a ha => by rw [k.old a ha]; exact xs a ha
    have xtK : ∀ {H' : Hp}, Keep (some m) X0 H H' → ∀ a ∈ X0, ∀ ps, H' a ≠ some (.tbl ps) := fun {H'} k a ha => by rw [k.old a ha]; exact xt a ha
    refine ⟨_, s8.e2, n, rfl, by omega, by omega, ?_⟩
    rw [Int.toNat_natCast]
    refine ⟨fun i mm σ' H' => mm = n - i ∧ i ≤ n ∧ S8 m n way p σ' ∧ ∃ (g : Nat → Nat → Int) (k' : Nat), Gd n g ∧ k2 ≤ k' ∧ k' ≤ k2 + 6 * i ∧ Keep (some m) X0 H H' ∧ MAt (some m) H' k' ∧ Mx H' p qs (fm n g), ⟨n, rfl, Nat.zero_le _, s8, _, k2, gd_id n, Nat.le_refl _, Nat.le_refl _, kp2, hm2, mx⟩, ?_⟩
    rintro i mm σ' H' ⟨rfl, hi, s8', g, k', gg, ka, kb, kp', hm', mx'⟩
    by_cases hlt : i < n
    · refine .inr ⟨hlt, fun σ2 H2 => S8 m n way p σ2 ∧ ∃ (g : Nat → Nat → Int) (k' : Nat), Gd n g ∧ k2 ≤ k' ∧ k' ≤ k2 + 6 * (i + 1) ∧ Keep (some m) X0 H H2 ∧ MAt (some m) H2 k' ∧ Mx H2 p qs (fm n g), fun σ2 H2 h => ⟨n - (i + 1), by omega, rfl, hlt, h⟩, ?_⟩
      rintro x H'' ⟨rfl, rfl⟩
      have s5 := s8'.set (i := 5) (by decide) (some (V.int (0 + (i : Int))))
      have t5 : (σ'.set 5 (some (V.int (0 + (i : Int)))))[5]? = some (some (V.int (0 + (i : Int)))) := List.getElem?_set_self (by rw [s8'.len]; decide)
      refine ⟨_, t5, _, _, rfl, rfl, _, s5.e2, 0 + (i : Int) + 1, n, rfl, ⟨by omega, by omega, by omega, by omega⟩, ?_⟩
      have en : ((n : Int) - (0 + (i : Int) + 1)).toNat = n - (i + 1) := by omega
      rw [en]
      refine ⟨fun j mm σ' H' => mm = (n - (i + 1)) - j ∧ j ≤ n - (i + 1) ∧ S8 m n way p σ' ∧ σ'[5]? = some (some (V.int (0 + (i : Int)))) ∧ ∃ (g : Nat → Nat → Int) (k' : Nat), Gd n g ∧ k2 ≤ k' ∧ k' ≤ k2 + 6 * i + j ∧ Keep (some m) X0 H H' ∧ MAt (some m) H' k' ∧ Mx H' p qs (fm n g), ⟨n - (i + 1), rfl, Nat.zero_le _, s5, t5, g, k', gg, ka, by omega, kp', hm', mx'⟩, ?_⟩
      clear s5 t5 gg ka kb kp' hm' mx' g k'
      rintro j mm σ' H' ⟨rfl, hj, s8', t5, g, k', gg, ka, kb, kp', hm', mx'⟩
      by_cases hjt : j < n - (i + 1)
      · refine .inr ⟨hjt, fun σ2 H2 => S8 m n way p σ2 ∧ σ2[5]? = some (some (V.int (0 + (i : Int)))) ∧ ∃ (g : Nat → Nat → Int) (k' : Nat), Gd n g ∧ k2 ≤ k' ∧ k' ≤ k2 + 6 * i + (j + 1) ∧ Keep (some m) X0 H H2 ∧ MAt (some m) H2 k' ∧ Mx H2 p qs (fm n g), fun σ2 H2 h => ⟨n - (i + 1) - (j + 1), by omega, rfl, hjt, h⟩, ?_⟩
        rintro x H'' ⟨rfl, rfl⟩
        have s6 := s8'.set (i := 6) (by decide) (some (V.int (0 + (i : Int) + 1 + (j : Int))))
        have t6 : (σ'.set 6 (some (V.int (0 + (i : Int) + 1 + (j : Int)))))[6]? = some (some (V.int (0 + (i : Int) + 1 + (j : Int)))) := List.getElem?_set_self (by rw [s8'.len]; decide)
        have u5 : (σ'.set 6 (some (V.int (0 + (i : Int) + 1 + (j : Int)))))[5]? = some (some (V.int (0 + (i : Int)))) := by rw [List.getElem?_set_ne (by decide)]; exact t5
        -- kind = 2
        have s7 := s6.set (i := 7) (by decide) (some (V.int 2))
        have u6 : ((σ'.set 6 (some (V.int (0 + (i : Int) + 1 + (j : Int))))).set 7 (some (V.int 2)))[6]? = some (some (V.int (0 + (i : Int) + 1 + (j : Int)))) := by rw [List.getElem?_set_ne (by decide)]; exact t6
        have v5 : ((σ'.set 6 (some (V.int (0 + (i : Int) + 1 + (j : Int))))).set 7 (some (V.int 2)))[5]? = some (some (V.int (0 + (i : Int)))) := by rw [List.getElem?_set_ne (by decide)]; exact u5
        have t7 : ((σ'.set 6 (some (V.int (0 + (i : Int) + 1 + (j : Int))))).set 7 (some (V.int 2)))[7]? = some (some (V.int 2)) := List.getElem?_set_self (by rw [s6.len]; decide)
        -- the last statement, whatever the kind
        have last : ∀ (σz : L2.St) (Hz : Hp) (kz : Nat) (v : Int), S8 m n way p σz → σz[5]? = some (some (V.int (0 + (i : Int)))) → σz[6]? = some (some (V.int (0 + (i : Int) + 1 + (j : Int)))) → σz[7]? = some (some (V.int v)) → (v = 2 ∨ v = 3 ∨ v = 4 ∨ v = 6 ∨ v = 0) → k' ≤ kz → kz ≤ k' + 1 → Keep (some m) X0 H Hz → MAt (some m) Hz kz → Mx Hz p qs (fm n g) →
            ∀ D : Ends, (∀ σ2 H2, (S8 m n way p σ2 ∧ σ2[5]? = some (some (V.int (0 + (i : Int)))) ∧ ∃ (g : Nat → Nat → Int) (k' : Nat), Gd n g ∧ k2 ≤ k' ∧ k' ≤ k2 + 6 * i + (j + 1) ∧ Keep (some m) X0 H H2 ∧ MAt (some m) H2 k' ∧ Mx H2 p qs (fm n g)) → D.nx σ2 H2) → tSw K D σz Hz := by
          intro σz Hz kz v z8 z5 z6 z7 hv kz1 kz2 zk zm zx D hD
          refine swap_tab (K := K) (a := i) (b := i + 1 + j) (by omega) (by omega) zx hlt (by omega) (by omega) z8.e4 z5 z6 z7 fun H9 kp9 tb9 mx9 => hD _ _ ⟨z8, z5, _, kz, gd_sw gg (by omega) hv, by omega, by omega, ⟨fun a o ha e t => kp9 a o (fun z => by have := hq0 a z; rw [e] at this; cases this) (zk.ob a o ha e t), zk.tb.trans tb9, fun a ha => ?_⟩, zm.eq (fun a ha hn => ?_) tb9, mx9⟩
          · cases e : Hz a with
            | none => rw [zk.old a ha] at e; exact absurd e (xs a ha)
            | some o => exact (kp9 a o (fun z => xs a ha (hq0 a z)) e).trans (e.symm.trans (zk.old a ha))
          · cases e : Hz a with
            | none => exact absurd e hn
            | some o => exact kp9 a o (fun z => mq a z ha) e
        refine lt8 xm (xsK kp') (xtK kp') s7 v5 u6 hm' (R := fun x kz => kz = k') ⟨_, rfl, _, rfl, rfl⟩ fun x kz hkz Hb kb' mb => ?_
        rw [hkz] at mb
        clear hkz kz
        have xb := mxK mx' kb'
        have kpb := kp'.trans kb'
        -- a drawn kind
        have drawn : ∀ (Hz : Hp) (kz : Nat) (u : V) (d : D), (k' ≤ kz ∧ kz ≤ k' + 1 ∧ ∃ v : Int, d = .int v ∧ (v = 2 ∨ v = 3 ∨ v = 4 ∨ v = 6 ∨ v = 0)) → Keep (some m) X0 Hb Hz → MAt (some m) Hz kz → Rl K (wo Hz (Ml (some m) ++ X0)) u d →
            ∀ D : Ends, (∀ σ2 H2, (S8 m n way p σ2 ∧ σ2[5]? = some (some (V.int (0 + (i : Int)))) ∧ ∃ (g : Nat → Nat → Int) (k' : Nat), Gd n g ∧ k2 ≤ k' ∧ k' ≤ k2 + 6 * i + (j + 1) ∧ Keep (some m) X0 H H2 ∧ MAt (some m) H2 k' ∧ Mx H2 p qs (fm n g)) → D.nx σ2 H2) →
            tSw K D (((σ'.set 6 (some (V.int (0 + (i : Int) + 1 + (j : Int))))).set 7 (some (V.int 2))).set 7 (some u)) Hz := by
          rintro Hz kz u d ⟨kz1, kz2, v, rfl, hv⟩ kk mm ru D hD
          cases ru.intE
          exact last _ Hz kz v (s7.set (by decide) _) (by rw [List.getElem?_set_ne (by decide)]; exact v5) (by rw [List.getElem?_set_ne (by decide)]; exact u6) (List.getElem?_set_self (by rw [s7.len]; decide)) hv kz1 kz2 (kpb.trans kk) mm (mxK xb kk) D hD
        cases x with
        | true =>
          refine iteT ?_
          refine le8 xm (xsK kpb) (xtK kpb) s7 v5 u6 mb (t := t_kA) (R := fun d kz => k' ≤ kz ∧ kz ≤ k' + 1 ∧ ∃ v : Int, d = .int v ∧ (v = 2 ∨ v = 3 ∨ v = 4 ∨ v = 6 ∨ v = 0)) ?_ fun d kz hd u Hc kc mc ru => ?_
          · refine ⟨by show 8 ≤ lim; decide, rfl, 8, rfl, by decide, by decide, by show k' < _; omega, fun z z0 z1 => ?_⟩
            have zc : z = 0 ∨ z = 1 ∨ z = 2 ∨ z = 3 ∨ z = 4 ∨ z = 5 ∨ z = 6 ∨ z = 7 := by omega
            rcases zc with rfl | rfl | rfl | rfl | rfl | rfl | rfl | rfl <;> exact ⟨_, .int _, rfl, rfl, by show k' ≤ k' + 1; omega, by show k' + 1 ≤ _; omega, _, rfl, by decide⟩
          · exact drawn Hc kz u d hd kc mc ru _ fun σ2 H2 h => h
        | false =>
          refine iteF ?_
          refine lt8 xm (xsK kpb) (xtK kpb) s7 v5 u6 mb (R := fun x kz => kz = k') ⟨_, rfl, _, rfl, rfl, rfl, _, rfl, rfl⟩ fun x kz hkz Hd kd md => ?_
          rw [hkz] at md
          clear hkz kz
          have xd := mxK xb kd
          have kpd := kpb.trans kd
          cases x with
          | true =>
            refine iteT ?_
            refine le8 xm (xsK kpd) (xtK kpd) s7 v5 u6 md (t := t_kB) (R := fun d kz => k' ≤ kz ∧ kz ≤ k' + 1 ∧ ∃ v : Int, d = .int v ∧ (v = 2 ∨ v = 3 ∨ v = 4 ∨ v = 6 ∨ v = 0)) ?_ fun d kz hd u Hc kc mc ru => ?_
            · have three : (k' ≤ k' ∧ k' ≤ k' + 1 ∧ ∃ v : Int, D.int 3 = .int v ∧ (v = 2 ∨ v = 3 ∨ v = 4 ∨ v = 6 ∨ v = 0)) := ⟨Nat.le_refl _, by omega, 3, rfl, by decide⟩
              refine ⟨_, rfl, _, rfl, _, rfl, iteD (fun _ => iteT three) fun _ => ?_⟩
              refine ⟨_, rfl, rfl, rfl, _, rfl, ?_⟩
              rw [eqvI]
              refine iteD (fun _ => three) fun _ => ?_
              refine ⟨by show 4 ≤ lim; decide, rfl, 4, rfl, by decide, by decide, by show k' < _; omega, fun z z0 z1 => ?_⟩
              have zc : z = 0 ∨ z = 1 ∨ z = 2 ∨ z = 3 := by omega
              rcases zc with rfl | rfl | rfl | rfl <;> exact ⟨_, .int _, rfl, rfl, by show k' ≤ k' + 1; omega, by show k' + 1 ≤ _; omega, _, rfl, by decide⟩
            · exact drawn Hc kz u d hd (kd.trans kc) mc ru _ fun σ2 H2 h => h
          | false =>
            exact iteF (last _ Hd k' 2 s7 v5 u6 t7 (by decide) (Nat.le_refl _) (by omega) kpd md xd _ fun σ2 H2 h => h)
      · refine .inl ⟨by show n - (i + 1) ≤ j; omega, ?_⟩
        exact ⟨s8', g, k', gg, ka, by omega, kp', hm', mx'⟩
    · refine .inl ⟨by show n ≤ i; omega, ?_⟩
      refine ⟨_, s8'.e4, ?_⟩
      have hidN : ∀ a, H a = none → a ∉ Ml (some m) ++ X0 := fun a ha z => by
        rcases List.mem_append.mp z with z | z
        · exact mlH a ha z
        · exact xs a z ha
      have rlM := mx'.rl (K := K) (hidN p hp0) fun q hq => hidN q (hq0 q hq)
      exact fin (lM (fm n g)) k' (hR (fm n g) k' (tab_fm n1 n6 gg) (by rw [fm_len]; exact nm) (by omega) (by omega)) _ _ (kp'.aft hm') rlM
end
end BW
namespace BW
open PySem L2 DL
mutual
def D.noIns : D → Bool
  | .lst xs => noInsA xs
  | .tup xs => noInsA xs
  | .ins _ _ _ => false
  | .exc _ _ _ => false
  | .non => true
  | .bl _ => true
  | .int _ => true
  | .str _ => true
  | .dic => true
def noInsA : List D → Bool
  | [] => true
  | d :: r => D.noIns d && noInsA r
end
theorem sqT_off {K : PySem.W.Frag} {A : Hp} {x C dx a : Addr} {fs : List (PySem.Str × V)} {vs : List V} (hx : A x = some (.ins C dx fs)) (h : SqT K A a vs) : SqT K (wo A [x]) a vs := by
  rcases h with h | h
  · refine .inl ?_
    rcases h with h | ⟨o, h⟩
    · exact .inl (wo_of (fun z => by simp at z; subst z; rw [hx] at h; cases h) h)
    · exact .inr ⟨o, wo_of (fun z => by simp at z; subst z; rw [hx] at h; cases h) h⟩
  · exact .inr h
mutual
theorem rl_off {K : PySem.W.Frag} {A : Hp} {x C dx : Addr} {fs : List (PySem.Str × V)} (hx : A x = some (.ins C dx fs)) : ∀ {v : V} {d : D}, Rl K A v d → D.noIns d = true → Rl K (wo A [x]) v d
  | _, _, .non, _ => .non
  | _, _, .bl b, _ => .bl b
  | _, _, .int i, _ => .int i
  | _, _, .str s, _ => .str s
  | _, _, .lst h r, n => .lst (wo_of (fun z => by simp at z; subst z; rw [hx] at h; cases h) h) (rlA_off hx r n)
  | _, _, .tup h r, n => .tup (sqT_off hx h) (rlA_off hx r n)
  | _, _, .dic h, _ => .dic (wo_of (fun z => by simp at z; subst z; rw [hx] at h; cases h) h)
  | _, _, .ins _ _ _, n => by cases n
  | _, _, .exc _ _ _ _, n => by cases n
theorem rlA_off {K : PySem.W.Frag} {A : Hp} {x C dx : Addr} {fs : List (PySem.Str × V)} (hx : A x = some (.ins C dx fs)) : ∀ {vs : List V} {ds : List D}, RlA K A vs ds → noInsA ds = true → RlA K (wo A [x]) vs ds
  | _, _, .nil, _ => .nil
  | _, _, .cons h r, n => .cons (rl_off hx h (Bool.and_eq_true_iff.mp n).1) (rlA_off hx r (Bool.and_eq_true_iff.mp n).2)
end
theorem noIns_ints : ∀ ns : List Int, noInsA (ns.map D.int) = true
  | [] => rfl
  | _ :: r => noIns_ints r
theorem noIns_tM (T : Mat) : D.noIns (tM T) = true := by
  show noInsA (T.map tI) = true
  induction T with
  | nil => rfl
  | cons r T ih =>
    show (noInsA (r.map D.int) && noInsA (T.map tI)) = true
    rw [noIns_ints, ih]
    rfl
abbrev s_init : Stmt := memS 24 0
abbrev s_len : Stmt := memS 24 1
theorem sc_init : FnScope ["self", "rows", "row", "one"] ["self", "rows"] (defScope s_init) := ⟨rfl, rfl, rfl, by decide +kernel, rfl, by decide +kernel, by decide +kernel⟩
theorem sc_len : FnScope ["self"] ["self"] (defScope s_len) := ⟨rfl, rfl, rfl, by decide +kernel, rfl, by decide +kernel, by decide +kernel⟩
section
variable {P : Program} {w : World} {K : PySem.W.Frag} {mg : PySem.Str → Option Value} {base : Heap} {BC : Addr}
theorem ok_len {f : Addr} {fd : FuncData} (F : Fun K "__len__" "Bonds.__len__" s_len f fd) (g_len : mg "len" = none) (g_Bonds : Cls K BC) (g_Bonds_table : NoAttr K BC "table") : FnOk P w K mg base CX0 1 f fd ["self"] (spD K false (sp_len_Bonds BC)) :=
  okD F sc_len [] (fun ds k R ⟨T, h, _⟩ => by rw [h]; rfl) ⟨dRet (dLen (dFld BC "table" (dVar 0))), fun cdv A outer s H E M X0 hr => (psd_one (psd_ret (pd_len rfl g_len (pd_fld rfl g_Bonds g_Bonds_table (pd_var 0))))), fun X ds k R ⟨T, h1, h2, h3⟩ => by
    subst h1
    intro X
    refine ⟨_, rfl, _, _, tM T, rfl, rfl, _, rfl, ?_⟩
    rw [List.length_map]
    exact h3⟩
theorem ok_init {f : Addr} {fd : FuncData} (F : Fun K "__init__" "Bonds.__init__" s_init f fd) (g_tuple : mg "tuple" = none) (g_range : mg "range" = none) (g_len : mg "len" = none) (c_check_table : CalD P w K mg base 3 "check_table" false sp_check_tableU) (c_weights_from : CalD P w K mg base 2 "weights_from" false sp_weights_from) (g_Bonds : Cls K BC) (g_Bonds_table : NoAttr K BC "table") (g_Bonds_weights : NoAttr K BC "weights") :
    FnOk P w K mg base CX0 4 f fd ["self", "rows"] (spI K BC (sp_BondsU BC)) := by
  refine F.ok sc_init (fun vs H Q E h => ?_) (fun cdv A outer s H vs Q E hr h => ?_)
  · obtain ⟨X0, x, dx, ds, ws, R, rfl, h1, h2, h3, h4, h4t, h5, h6, ra, ⟨T, dd, rfl, _⟩, _⟩ := h
    have := ra.len
    rw [List.length_cons, this]
    rfl
  · obtain ⟨X0, x, dx, ds, ws, R, rfl, hx, hdx, ne, xs, xt, nx, ndx, ra, ⟨T, dd, rfl, hm, ht, hR⟩, fin⟩ := h
    obtain ⟨rs, hs, hl, hrow⟩ : ∃ rs, dd.items = some rs ∧ rs.length = T.length ∧ ∀ i, i < T.length → ∃ q, rs[i]? = some q ∧ (q = lI (T.getD i []) ∨ q = tI (T.getD i [])) := by
      obtain ⟨rs, hd, hl, hrow⟩ := hm
      rcases hd with rfl | rfl
      · exact ⟨rs, rfl, hl, hrow⟩
      · exact ⟨rs, rfl, hl, hrow⟩
    obtain ⟨v, rfl, rv⟩ : ∃ v, ws = [v] ∧ Rl K (wo H (x :: X0)) v dd := by
      cases ra with
      | cons a b => cases b; exact ⟨_, rfl, a⟩
    refine ⟨_, pss_cons (ps_expr (PE.exE (K := K) (t := dCall sp_check_tableU (dCons (dVar 1) dNil)) fun c hc => pd_call hc c_check_table hr (by decide) (pad_cons (pd_var 1) pad_nil)))
      (pss_cons (ps_fld (pv 0) (PE.exE (K := K) (t := (dTupOf (dFr (dLc (iSeq (dVar 1)) (dgN 2) dY (dTupN 2) [2])))) fun c hc => (pd_tupOf hc g_tuple (pd_fr (pdf_lc (own := [("row", 2)]) rfl sc_init.nd (pid_seq hc (pd_var 1)) (blkOk_by (N := ["self", "rows", "row", "one"]) (sc := defScope s_init) (by decide +kernel)) (fun _ _ _ _ _ => (pgd_name 2 sc_init.nd)) (fun _ _ _ _ _ => pts_none) (fun _ _ _ _ _ => (pd_tupN hc g_tuple 2)))))) rfl)
      (pss_one (ps_fld (pv 0) (PE.exE (K := K) (t := (dTupOf (dFr (dLc (iR2 (dC (.int 1)) (dOp oAdd (dLenN 1) (dC (.int 1)))) (dgN 3) dY (dCall sp_weights_from (dCons (dFld BC "table" (dVar 0)) (dCons (dVar 3) dNil))) [3])))) fun c hc => (pd_tupOf hc g_tuple (pd_fr (pdf_lc (own := [("one", 3)]) rfl sc_init.nd (pid_r2 g_range pd_int (pd_add hc (pd_lenN hc g_len 1) pd_int)) (blkOk_by (N := ["self", "rows", "row", "one"]) (sc := defScope s_init) (by decide +kernel)) (fun _ _ _ _ _ => (pgd_name 3 sc_init.nd)) (fun _ _ _ _ _ => pts_none) (fun _ _ _ _ _ => (pd_call hc c_weights_from hr (by decide) (pad_cons (pd_fld hc g_Bonds g_Bonds_table (pd_var 0)) (pad_cons (pd_var 3) pad_nil)))))))) rfl))), ?_⟩
    have hT := ht.hi
    -- a state whose only data is the table
    have repT : ∀ (Y : List Addr) (G : Hp) (d0 : Sl), (∀ a ∈ Y, G a ≠ none) → (∀ a ∈ Y, ∀ ps, G a ≠ some (.tbl ps)) → SlOk ⟨K, none, Y, G, []⟩ Y G (some (some (V.ref x))) d0 → (∀ p ds, d0 ≠ .own p ds) → Rl K (wo G Y) v dd → Rep ⟨K, none, Y, G, []⟩ ⟨Y, [d0, .dat dd, .no, .no], 0⟩ (L2.start ["self", "rows", "row", "one"] [V.ref x, v]) G := by
      intro Y G d0 hY hT0 h0 hn hv
      refine ⟨Sub.refl _, fun _ _ _ _ => rfl, fun _ h => h, fun _ _ => by simp [Ml], hY, trivial, fun i z e => ?_, fun i j p q ds es e _ _ => ?_, rfl, .refl, hT0⟩
      · match i, e with
        | 0, e => cases e; exact h0
        | 1, e => cases e; exact ⟨v, rfl, hv⟩
        | 2, e => cases e; trivial
        | 3, e => cases e; trivial
      · match i, e with
        | 0, e => cases e; exact absurd rfl (hn _ _)
        | 1, e => cases e
        | 2, e => cases e
        | 3, e => cases e
    have xs1 : ∀ a ∈ x :: X0, H a ≠ none := fun a h => by
      rcases List.mem_cons.mp h with rfl | h
      · rw [hx]; simp
      · exact xs a h
    have xt1 : ∀ a ∈ x :: X0, ∀ ps, H a ≠ some (.tbl ps) := fun a h ps => by
      rcases List.mem_cons.mp h with rfl | h
      · rw [hx]; intro e; cases e
      · exact xt a h ps
    refine ⟨⟨K, none, x :: X0, H, []⟩, rfl, ⟨x :: X0, [.no, .dat dd, .no, .no], 0⟩, fun _ _ => True, repT _ H .no xs1 xt1 trivial (fun _ _ z => nomatch z) rv, ?_, ?_⟩
    · exact ⟨_, rfl, T, dd, rfl, hm, ht, trivial⟩
    rintro _ k0 _ _ H1 r1 a1 _
    have x1 : H1 x = some (.ins BC dx []) := by rw [a1.own x List.mem_cons_self]; exact hx
    have s01 : Sub (wo H (x :: X0)) (wo H1 (x :: X0)) := a1.sub
    have o1 : ∀ a ∈ X0, H1 a = H a := fun a h => a1.own a (List.mem_cons_of_mem _ h)
    have t01 : TbK H H1 := r1.tb
    clear r1 a1
    have rv1 := rv.mono s01
    refine ⟨⟨K, none, x :: X0, H1, []⟩, rfl, ⟨x :: X0, [.no, .dat dd, .no, .no], 0⟩, fun d _ => d = tM T, repT _ H1 .no (fun a h => by
      rcases List.mem_cons.mp h with rfl | h
      · rw [x1]; simp
      · rw [o1 a h]; exact xs a h) (fun a h ps => by
      rcases List.mem_cons.mp h with rfl | h
      · rw [x1]; intro e; cases e
      · rw [o1 a h]; exact xt a h ps) trivial (fun _ _ z => nomatch z) rv1, ?_, ?_⟩
    · refine ⟨_, rfl, rs, hs, by rw [hl]; exact Nat.le_trans hT (by decide), fun p hp => ⟨fun j acc _ => acc = (T.take j).map tI, rfl, ?_, ?_⟩⟩
      · rintro j d acc k' hd rfl _
        have hj : j < T.length := by have := (List.getElem?_eq_some_iff.mp hd).1; omega
        obtain ⟨q, hq, hq2⟩ := hrow j hj
        rw [hd] at hq
        cases hq
        have hr : T[j]? = some (T.getD j []) := getD_get hj
        rcases hq2 with rfl | rfl
        all_goals
          refine iteT ⟨_, rfl, ?_⟩
          show _ = (T.take (j + 1)).map tI
          rw [List.take_succ, hr, List.map_append]
          rfl
      · rintro acc k' rfl _
        refine ⟨_, rfl, ?_⟩
        rw [hl, List.take_length]
    rintro _ k1 rfl v1 H2 r2 a2 rt
    have x2 : H2 x = some (.ins BC dx []) := by rw [a2.own x List.mem_cons_self]; exact x1
    have s12 : Sub (wo H1 (x :: X0)) (wo H2 (x :: X0)) := a2.sub
    have o2 : ∀ a ∈ X0, H2 a = H1 a := fun a h => a2.own a (List.mem_cons_of_mem _ h)
    have rt : Rl K (wo H2 (x :: X0)) v1 (tM T) := rt
    have t12 : TbK H1 H2 := r2.tb
    clear r2 a2
    refine ⟨_, rfl, x, BC, dx, [], rfl, x2, g_Bonds, g_Bonds_table, by decide, ?_⟩
    -- the first field stands
    have s23 : Sub (wo H2 (x :: X0)) (wo (upd H2 x (.ins BC dx [("table", v1)])) X0) := fun a o e => by
      obtain ⟨n, e⟩ := wo_ne e
      exact wo_of (fun z => n (List.mem_cons_of_mem _ z)) (by rw [upd_ne (fun z => n (by rw [z]; exact List.mem_cons_self))]; exact e)
    have x3 : (upd H2 x (.ins BC dx [(("table" : PySem.Str), v1)])) x = some (.ins BC dx [("table", v1)]) := upd_same
    have o3 : ∀ a ∈ X0, (upd H2 x (.ins BC dx [(("table" : PySem.Str), v1)])) a = H a := fun a h => by rw [upd_ne (fun z => nx (by rw [← z]; exact h)), o2 a h, o1 a h]
    have rt3 := rt.mono s23
    have rv3 := (rv1.mono s12).mono s23
    have hY3 : ∀ a ∈ X0, (upd H2 x (.ins BC dx [(("table" : PySem.Str), v1)])) a ≠ none := fun a h => by rw [o3 a h]; exact xs a h
    refine ⟨⟨K, none, X0, upd H2 x (.ins BC dx [("table", v1)]), []⟩, rfl, ⟨X0, [.dat (.ins BC ["table"] [tM T]), .dat dd, .no, .no], 0⟩, fun d _ => d = tM (wtM T), repT _ _ (.dat (.ins BC ["table"] [tM T])) hY3 (fun a h => by rw [o3 a h]; exact xt a h) ⟨_, rfl, .ins (ns := ["table"]) (vs := [v1]) (wo_of (by simpa [Ml] using nx) x3) rfl (.cons rt3 .nil)⟩ (fun _ _ z => nomatch z) rv3, ?_, ?_⟩
    · refine ⟨rs, hs, 1, _, rfl, rfl, ⟨by omega, by omega, ?_, ?_⟩, ?_⟩
      · omega
      · omega
      have en : ((rs.length : Int) + 1 - 1).toNat = T.length := by omega
      rw [en]
      refine ⟨by rw [rngD_len]; exact Nat.le_trans hT (by decide), fun p hp => ⟨fun j acc _ => acc = (List.range j).map fun i => tI (wtr T i), rfl, ?_, ?_⟩⟩
      · rintro j d acc k' hd rfl _
        obtain ⟨hj, rfl⟩ := rngD_at hd
        refine iteT ⟨_, rfl, _, _, tM T, rfl, rfl, _, rfl, T, _, rfl, ht, by omega, by omega, ?_⟩
        have e : ix (1 + (j : Int)) = j := by unfold ix; omega
        rw [e]
        show _ = (List.range (j + 1)).map _
        rw [range_step]
      · rintro acc k' rfl _
        refine ⟨_, rfl, ?_⟩
        rw [rngD_len]
        show D.tup _ = D.tup ((wtM T).map tI)
        unfold wtM
        rw [List.map_map]
        rfl
    rintro _ k2 rfl v2 H3 r3 a3 rw2
    have s34 : Sub (wo (upd H2 x (.ins BC dx [(("table" : PySem.Str), v1)])) X0) (wo H3 X0) := a3.sub
    have o4 : ∀ a ∈ X0, H3 a = H a := fun a h => (a3.own a h).trans (o3 a h)
    have rw2 : Rl K (wo H3 X0) v2 (tM (wtM T)) := rw2
    have t34 : TbK (upd H2 x (.ins BC dx [("table", v1)])) H3 := r3.tb
    clear r3 a3
    have x4 : (wo H3 X0) x = some (.ins BC dx [("table", v1)]) := s34 x _ (wo_of nx x3)
    have rt4 := rl_off x4 (rt3.mono s34) (noIns_tM T)
    have rw4 := rl_off x4 rw2 (noIns_tM _)
    refine ⟨_, rfl, x, BC, dx, [("table", v1)], rfl, (wo_ne x4).2, g_Bonds, g_Bonds_weights, by show 1 < 1000; decide, ?_⟩
    have s45 : Sub (wo (wo H3 X0) [x]) (wo (upd H3 x (.ins BC dx [(("table" : PySem.Str), v1), ("weights", v2)])) X0) := fun a o e => by
      obtain ⟨n, e⟩ := wo_ne e
      obtain ⟨n2, e⟩ := wo_ne e
      exact wo_of n2 (by rw [upd_ne (fun z => n (by rw [z]; exact List.mem_cons_self))]; exact e)
    refine fin (bnd BC T) 0 hR (upd H3 x (.ins BC dx [(("table" : PySem.Str), v1), ("weights", v2)])) (fun a o e => ?_) (fun a h => by rw [upd_ne (fun z => nx (by rw [← z]; exact h)), o4 a h]) (t01.trans (t12.trans ((TbK.at_ x2).trans (t34.trans (TbK.at_ (wo_ne x4).2))))) ?_
    · obtain ⟨n, _⟩ := wo_ne e
      have e4 := s34 a o (s23 a o (s12 a o (s01 a o e)))
      obtain ⟨n2, e4⟩ := wo_ne e4
      exact wo_of n2 (by rw [upd_ne (fun z => n (by rw [z]; exact List.mem_cons_self))]; exact e4)
    · exact .ins (ns := ["table", "weights"]) (vs := [v1, v2]) (wo_of nx upd_same) rfl (.cons (rt4.mono s45) (.cons (rw4.mono s45) .nil))
end
end BW
namespace BW
open PySem L2 DL
section
variable {P : Program} {w : World} {K : PySem.W.Frag} {mg : PySem.Str → Option Value} {base : Heap} {BC : Addr}
abbrev s_eq : Stmt := memS 24 2
theorem sc_eq : FnScope ["self", "other"] ["self", "other"] (defScope s_eq) := ⟨rfl, rfl, rfl, by decide +kernel, rfl, by decide +kernel, by decide +kernel⟩
theorem ok_eq {f fe : Addr} {fd : FuncData} (F : Fun K "__eq__" "Bonds.__eq__" s_eq f fd) (O : OwnK K BC fe) (g_isinstance : mg "isinstance" = none) (m_Bonds : mg "Bonds" = some (.ref BC)) (g_Bonds_table : NoAttr K BC "table") : FnOk P w K mg base CX0 1 f fd ["self", "other"] (spD K false (sp_eq BC)) :=
  okD F sc_eq [] (fun ds k R h => by obtain ⟨_, _, rfl, _⟩ := h; rfl) ⟨t_eq BC, fun cdv A outer s H E M X0 hr => (psd_one (psd_ret (pd_andV (pd_isiO O rfl g_isinstance m_Bonds (pd_var 1)) (pd_one (pd_cmp (OpR.or op_eq (op_eqD hr.units)) (fit_eq rfl) (pd_fld rfl O.cl g_Bonds_table (pd_var 0)) (pd_fld rfl O.cl g_Bonds_table (pd_var 1))))))), r_eq BC⟩
end
end BW
namespace BW
open PySem L2 DL
theorem ok_initX {P : Program} {w : World} {K : PySem.W.Frag} {mg : PySem.Str → Option Value} {base : Heap} {f : Addr} {fd : FuncData} (F : Fun K "__init__" "Bonds.__init__" s_init f fd) (cX_check_table : CalX P w K mg base 3 "check_table" spX_check_tableB) :
    FnOk P w K mg base (L2.CX P w) 4 f fd ["self", "rows"] (spDX K false spX_mk_Bonds) :=
  okDX F sc_init [] (by intro ds k R E h; obtain ⟨_, _, _, rfl, _⟩ := h; rfl) ⟨tX_mk_Bonds, fun cdv A outer s H E M X0 Ex hr tk => (psd_cons (psd_expr (pd_callX rfl tk cX_check_table hr (by decide) (pad_cons (pd_var 1) pad_nil))) pssd_never), fun X ds k R E h => rX_mk_Bonds X ds k R E h⟩
end BW
namespace BW
open PySem L2 DL
theorem sc_law : FnScope ["script", "m", "turn", "rows", "due", "handed", "bonds", "bent", "told", "odd", "row", "one"] ["script"] (defScope s_law) := ⟨rfl, rfl, rfl, by decide +kernel, rfl, by decide +kernel, by decide +kernel⟩
def exLSs (K : PySem.W.Frag) (T : List (Addr × PySem.Str)) (t : DS) : TS := fun D σ H => ∃ c, c.K = K ∧ LwC c T ∧ c.ow = [] ∧ Weak c ∧ LSW c t D σ H
theorem PSs.exL {X : Cx} {st : List Stmt} {K : PySem.W.Frag} {T : List (Addr × PySem.Str)} {t : DS} (h : ∀ c, c.K = K → LwC c T → c.ow = [] → Weak c → PSs X st (LSW c t)) : PSs X st (exLSs K T t) := ⟨fun pins s σ H Q I ⟨c, hc, fr, ho, hw, q⟩ => (h c hc fr ho hw).run pins s σ H Q I q⟩
def spLaw (K : PySem.W.Frag) (T : List (Addr × PySem.Str)) : Sp := fun vs H Q _ => ∃ (a : Addr) (ns : List Int), vs = [.ref a] ∧ SqL K H a (ns.map V.int) ∧ ns.length ≤ 63 ∧ (∀ p ∈ T, H p.1 = some (.tbl #[])) ∧ ∀ H', Q (.bl true) H'
section
variable {P : Program} {w : World} {K : PySem.W.Frag} {mg : PySem.Str → Option Value} {base : Heap} {BC NC : Addr} {T : List (Addr × PySem.Str)}
theorem w_law (g_range : mg "range" = none) (g_tuple : mg "tuple" = none) (g_repr : mg "repr" = none) (g_len : mg "len" = none) (g_isinstance : mg "isinstance" = none) (g_list : mg "list" = none) (g_MOST_LETTERS : ∃ t, mg "MOST_LETTERS" = some (.int (6) t)) (g_MOST_WORD : ∃ t, mg "MOST_WORD" = some (.int (60) t)) (c__law_table : CalD P w K mg base 3 "_law_table" true sp__law_table) (c__law_draw : CalD P w K mg base 2 "_law_draw" true sp__law_draw) (c_Bonds : MakD P w K mg base 4 "Bonds" BC (sp_BondsU BC)) (c__law_spoiled : CalDW P w K mg base 3 "_law_spoiled" sp__law_spoiled01) (c__law_due : CalD P w K mg base 1 "_law_due" false sp__law_dueB) (td : TdB P w K mg base 5 T6N (sp__law_classU K)) (c_len_Bonds : LenD P w K mg base 1 BC (sp_len_Bonds BC)) (cB_Bonds : MakB P w K mg base 4 "Bonds" spX_mk_Bonds) (c_eq : EqD P w K mg base 1 BC (sp_eq BC)) (g_Bonds : Cls K BC) (g_Bonds_table : NoAttr K BC "table")  (f : Addr) (cdv : Value) (A : Around) (outer : List Env) (s : Shared) (H : Hp) (E : XK) {c : C} (hc : c.K = K) {cc Pt : Addr} (fr : LwC c T) (it : InT T Pt lamQ) (ho : c.ow = []) (hw : Weak c) (TB : LamX.TabB base mg cc Pt) (hcd : cdv = .ref cc)
    (gu : (A.deeper (PyProof.Rows.envOfC "law" (defScope s_law) s.heap.objs.size f cdv)).guards = some []) (hr : Room 7 (A.deeper (PyProof.Rows.envOfC "law" (defScope s_law) s.heap.objs.size f cdv))) :
    PSs (cxOf CX0 P w K mg base ["script", "m", "turn", "rows", "due", "handed", "bonds", "bent", "told", "odd", "row", "one"] "law" (defScope s_law) f cdv A outer s H E).nox ((defBody s_law).drop 1) (LSW c (t_law01 BC K)) :=
  (psW_cons (psW_for PassesOwn.never rfl (pidW_r1 g_range pd_int) (pgd_name 2 sc_law.nd) (psW_cons (psW_of (psd_set 3 sc_law.nd (pd_callM hc c__law_table hr (by decide) 1 (pad_cons pd_int pad_nil))))
  (psW_cons (psW_of (psd_set 4 sc_law.nd (pd_tupOf hc g_tuple (pd_fr (pdf_lc (own := [("row", 10)]) rfl sc_law.nd (pid_list hc (pd_var 3)) (blkOk_by (N := ["script", "m", "turn", "rows", "due", "handed", "bonds", "bent", "told", "odd", "row", "one"]) (sc := defScope s_law) (by decide +kernel)) (fun sB HB CB clB fpB => (pgd_name 10 sc_law.nd)) (fun sB HB CB clB fpB => pts_none) (fun sB HB CB clB fpB => (pd_tupN hc g_tuple 10)))))))
  (psW_cons (psW_of (psd_set 5 sc_law.nd (pd_ix hc (pd_fr (pdf_lst (pad_cons (pd_var 3) (pad_cons (pd_tupN hc g_tuple 3) (pad_cons (pd_var 4) pad_nil))))) (pd_callM hc c__law_draw hr (by decide) 1 (pad_cons pd_int pad_nil)))))
  (psW_cons (psW_of (psd_set 6 sc_law.nd (pd_make hc c_Bonds hr (by decide) (pad_cons (pd_var 5) pad_nil))))
  (psW_cons (psW_mut hw hc 3 pd_int pd_int pd_int)
  (psW_cons (psW_of (psd_if (PW.pt (pwd_or (ptd_cmp (OpR.or op_ne (op_neD hr.units)) (fit_ne hc) (pd_reprD hc gu hr g_repr (pd_fld hc g_Bonds g_Bonds_table (pd_var 6))) (pd_reprD hc gu hr g_repr (pd_var 4))) (pwd_or (ptd_cmp (OpR.or op_ne (op_neD hr.units)) (fit_ne hc) (pd_repr g_repr (pd_lenO hc g_len c_len_Bonds hr (by decide) (pd_var 6))) (pd_repr g_repr (pd_lenN hc g_len 4))) (pwd_or1 (ptd_neI hc c_eq hr (by decide) (pd_var 6) (pd_make hc c_Bonds hr (by decide) (pad_cons (pd_var 4) pad_nil))))))) (psd_one (psd_ret pd_bl)) psd_nil))
  (psW_cons (psW_callM hw hc c__law_spoiled hr (by decide) 7 1 sc_law.nd (pad_cons (pd_var 4) pad_nil))
  (psW_cons (psW_of (psd_set 8 sc_law.nd (pd_toldB (k := 5) hc fr it td TB hcd hr (by decide) (LamX.lamS_by (sc := defScope s_law) (by decide +kernel)) (fun A1 o1 s1 H1 E1 f1 c1 c2 Ex rm ek tk => (pd_eor (pd_make (X := LamX.lamCx (cxOf CX0 P w K mg base ["script", "m", "turn", "rows", "due", "handed", "bonds", "bent", "told", "odd", "row", "one"] "law" (defScope s_law) f cdv A outer s H E).nox A1 o1 s1 H1 E1 _ f1 c1) ek c_Bonds rm (by decide) (pad_cons (pd_var 7) pad_nil)) (pd_makeB (X := LamX.lamCx (cxOf CX0 P w K mg base ["script", "m", "turn", "rows", "due", "handed", "bonds", "bent", "told", "odd", "row", "one"] "law" (defScope s_law) f cdv A outer s H E).nox A1 o1 s1 H1 E1 _ f1 c1) ek tk cB_Bonds rm (by decide) (pad_cons (pd_var 7) pad_nil)))))))
  (psW_cons (psW_of (psd_if (PW.pt (pwd_and (ptd_cmp (OpR.or op_notN op_notBl) fit_isnot (pd_call hc c__law_due hr (by decide) (pad_cons (pd_var 7) pad_nil)) pd_non) (pwd_and1 (ptd_cmp (OpR.or op_ne (op_neD hr.units)) (fit_ne hc) (pd_reprD hc gu hr g_repr (pd_var 8)) (pd_reprD hc gu hr g_repr (pd_call hc c__law_due hr (by decide) (pad_cons (pd_var 7) pad_nil))))))) (psd_one (psd_ret pd_bl)) psd_nil))
  (psW_one (psW_of (psd_if (ptd_cmp (OpR.or op_isN op_isBl) fit_is (pd_call hc c__law_due hr (by decide) (pad_cons (pd_var 7) pad_nil)) pd_non) (psd_one (psd_if (PW.pt (pwd_or (ptd_not (pt_tru hc (pd_isi hc g_isinstance g_list PyProof.Rows.boot_list (pd_var 8)))) (pwd_or1 (ptd_cmp (OpR.or op_ne (op_neD hr.units)) (fit_ne hc) (pd_fld hc g_Bonds g_Bonds_table (pd_ixN hc 8 pd_int)) (pd_tupOf hc g_tuple (pd_fr (pdf_lc (own := [("one", 11)]) rfl sc_law.nd (pid_list hc (pd_var 7)) (blkOk_by (N := ["script", "m", "turn", "rows", "due", "handed", "bonds", "bent", "told", "odd", "row", "one"]) (sc := defScope s_law) (by decide +kernel)) (fun sB HB CB clB fpB => (pgd_name 11 sc_law.nd)) (fun sB HB CB clB fpB => pts_none) (fun sB HB CB clB fpB => (pd_tupN hc g_tuple 11))))))))) (psd_one (psd_ret pd_bl)) psd_nil)) psd_nil)))))))))))))
  (psW_cons (psW_of (psd_set 9 sc_law.nd (pd_ix hc (pd_fr (pdf_lst (pad_cons pd_non (pad_cons pd_int (pad_cons pd_str (pad_cons pd_bl (pad_cons pd_newD (pad_cons (pd_pow pd_int pd_int) pad_nil)))))))) (pd_callM hc c__law_draw hr (by decide) 1 (pad_cons pd_int pad_nil)))))
  (psW_cons (psW_of (psd_if (PW.pt (pwd_or (ptd_cmp (OpR.or op_ne (op_neD hr.units)) (fit_ne hc) (pd_toldB (k := 5) hc fr it td TB hcd hr (by decide) (LamX.lamS_by (sc := defScope s_law) (by decide +kernel)) (fun A1 o1 s1 H1 E1 f1 c1 c2 Ex rm ek tk => (pd_eor (pd_make (X := LamX.lamCx (cxOf CX0 P w K mg base ["script", "m", "turn", "rows", "due", "handed", "bonds", "bent", "told", "odd", "row", "one"] "law" (defScope s_law) f cdv A outer s H E).nox A1 o1 s1 H1 E1 _ f1 c1) ek c_Bonds rm (by decide) (pad_cons (pd_var 9) pad_nil)) (pd_makeB (X := LamX.lamCx (cxOf CX0 P w K mg base ["script", "m", "turn", "rows", "due", "handed", "bonds", "bent", "told", "odd", "row", "one"] "law" (defScope s_law) f cdv A outer s H E).nox A1 o1 s1 H1 E1 _ f1 c1) ek tk cB_Bonds rm (by decide) (pad_cons (pd_var 9) pad_nil))))) (pd_tup (pad_cons pd_str (pad_cons pd_non pad_nil)))) (pwd_or (ptd_cmp (OpR.or op_ne (op_neD hr.units)) (fit_ne hc) (pd_globE g_MOST_LETTERS) pd_int) (pwd_or1 (ptd_cmp (OpR.or op_ne (op_neD hr.units)) (fit_ne hc) (pd_globE g_MOST_WORD) pd_int))))) (psd_one (psd_ret pd_bl)) psd_nil))
  (psW_cons (psW_of (psd_for PassesOwn.never rfl (pid_tup hc (pd_tup (pad_cons (pd_fr (pdf_lst (pad_cons (pd_fr (pdf_lst (pad_cons pd_int (pad_cons pd_int pad_nil)))) (pad_cons pd_non pad_nil)))) (pad_cons (pd_fr (pdf_lst (pad_cons (pd_fr (pdf_lst (pad_cons pd_int (pad_cons pd_int pad_nil)))) (pad_cons (pd_fr (pdf_lst (pad_cons pd_int pad_nil))) pad_nil)))) (pad_cons (pd_tup (pad_cons (pd_tup (pad_cons pd_int (pad_cons pd_int (pad_cons pd_int pad_nil)))) (pad_cons (pd_tup pad_nil) (pad_cons pd_non pad_nil)))) pad_nil))))) (pgd_name 7 sc_law.nd) (psd_one (psd_if (ptd_cmp (OpR.or op_ne (op_neD hr.units)) (fit_ne hc) (pd_toldB (k := 5) hc fr it td TB hcd hr (by decide) (LamX.lamS_by (sc := defScope s_law) (by decide +kernel)) (fun A1 o1 s1 H1 E1 f1 c1 c2 Ex rm ek tk => (pd_eor (pd_make (X := LamX.lamCx (cxOf CX0 P w K mg base ["script", "m", "turn", "rows", "due", "handed", "bonds", "bent", "told", "odd", "row", "one"] "law" (defScope s_law) f cdv A outer s H E).nox A1 o1 s1 H1 E1 _ f1 c1) ek c_Bonds rm (by decide) (pad_cons (pd_var 7) pad_nil)) (pd_makeB (X := LamX.lamCx (cxOf CX0 P w K mg base ["script", "m", "turn", "rows", "due", "handed", "bonds", "bent", "told", "odd", "row", "one"] "law" (defScope s_law) f cdv A outer s H E).nox A1 o1 s1 H1 E1 _ f1 c1) ek tk cB_Bonds rm (by decide) (pad_cons (pd_var 7) pad_nil))))) (pd_tup (pad_cons pd_str (pad_cons pd_non pad_nil)))) (psd_one (psd_ret pd_bl)) psd_nil))))
  (psW_one (psW_of (psd_ret (pd_andV (pd_cmp (OpR.or op_eq (op_eqD hr.units)) (fit_eq hc) (pd_fld hc g_Bonds g_Bonds_table (pd_make hc c_Bonds hr (by decide) (pad_cons (pd_fr (pdf_lst (pad_cons (pd_fr (pdf_lst (pad_cons pd_int pad_nil))) pad_nil))) pad_nil))) (pd_tup (pad_cons (pd_tup (pad_cons pd_int pad_nil)) pad_nil))) (pd_one (pd_cmp (OpR.or op_eq (op_eqD hr.units)) (fit_eq hc) (pd_toldB (k := 5) hc fr it td TB hcd hr (by decide) (LamX.lamS_by (sc := defScope s_law) (by decide +kernel)) (fun A1 o1 s1 H1 E1 f1 c1 c2 Ex rm ek tk => (pd_eor (pd_make (X := LamX.lamCx (cxOf CX0 P w K mg base ["script", "m", "turn", "rows", "due", "handed", "bonds", "bent", "told", "odd", "row", "one"] "law" (defScope s_law) f cdv A outer s H E).nox A1 o1 s1 H1 E1 _ f1 c1) ek c_Bonds rm (by decide) (pad_cons (pd_fr (pdf_lst (pad_cons (pd_fr (pdf_lst (pad_cons pd_int (pad_cons pd_int pad_nil)))) (pad_cons (pd_fr (pdf_lst (pad_cons pd_int (pad_cons pd_int pad_nil)))) pad_nil)))) pad_nil)) (pd_makeB (X := LamX.lamCx (cxOf CX0 P w K mg base ["script", "m", "turn", "rows", "due", "handed", "bonds", "bent", "told", "odd", "row", "one"] "law" (defScope s_law) f cdv A outer s H E).nox A1 o1 s1 H1 E1 _ f1 c1) ek tk cB_Bonds rm (by decide) (pad_cons (pd_fr (pdf_lst (pad_cons (pd_fr (pdf_lst (pad_cons pd_int (pad_cons pd_int pad_nil)))) (pad_cons (pd_fr (pdf_lst (pad_cons pd_int (pad_cons pd_int pad_nil)))) pad_nil)))) pad_nil))))) (pd_tup (pad_cons pd_str (pad_cons (pd_tup (pad_cons pd_int (pad_cons pd_int pad_nil))) pad_nil)))))))))))))
theorem ok_law (g_range : mg "range" = none) (g_tuple : mg "tuple" = none) (g_repr : mg "repr" = none) (g_len : mg "len" = none) (g_isinstance : mg "isinstance" = none) (g_list : mg "list" = none) (g_MOST_LETTERS : ∃ t, mg "MOST_LETTERS" = some (.int (6) t)) (g_MOST_WORD : ∃ t, mg "MOST_WORD" = some (.int (60) t)) (c__law_table : CalD P w K mg base 3 "_law_table" true sp__law_table) (c__law_draw : CalD P w K mg base 2 "_law_draw" true sp__law_draw) (c_Bonds : MakD P w K mg base 4 "Bonds" BC (sp_BondsU BC)) (c__law_spoiled : CalDW P w K mg base 3 "_law_spoiled" sp__law_spoiled01) (c__law_due : CalD P w K mg base 1 "_law_due" false sp__law_dueB) (td : TdB P w K mg base 5 T6N (sp__law_classU K)) (c_len_Bonds : LenD P w K mg base 1 BC (sp_len_Bonds BC)) (cB_Bonds : MakB P w K mg base 4 "Bonds" spX_mk_Bonds) (c_eq : EqD P w K mg base 1 BC (sp_eq BC)) (g_Bonds : Cls K BC) (g_Bonds_table : NoAttr K BC "table")  {fb : Addr} {fd fdb : FuncData} (F : Fun K "law" "law" s_law (He.fAd K ("law", none)) fd) (Gb : FnOk P w K mg base CX0 2 fb fdb ["script"] (T7.spBegun K)) (hmb : mg "_law_begun" = some (.ref fb)) (kpb : PySem.W.keepIn K (.ref fb) = true) (bb : Binds K fdb ["script"] []) {Pt : Addr} (it : InT T Pt lamQ) (TB : LamX.TabB base mg (He.codeOf K ("law", none)) Pt) :
    L2G.FnG P w K mg base 8 (He.fAd K ("law", none)) fd ["script"] (spLaw K T) := by
  refine L2G.okGT F sc_law (fun vs H Q E h => ?_) (fun cdv A outer s H vs Q E hcd hr gu h => ?_)
  · obtain ⟨a, ns, rfl, _⟩ := h
    rfl
  · obtain ⟨a, ns, rfl, ha, hl, hpt, fin⟩ := h
    refine ⟨_, pss_cons (ps_set (i := 1) sc_law.nd rfl (by first | exact .inl rfl | exact .inr rfl) (pe_call Gb (hr.mono (by decide)) rfl hmb kpb bb .nil pass0 (pa_cons (pv 0) pa_nil))) (PSs.exL (K := K) (T := T) (t := t_law01 BC K) fun c hc fr ho hw => w_law g_range g_tuple g_repr g_len g_isinstance g_list g_MOST_LETTERS g_MOST_WORD c__law_table c__law_draw c_Bonds c__law_spoiled c__law_due td c_len_Bonds cB_Bonds c_eq g_Bonds g_Bonds_table _ cdv A outer s H E hc fr it ho hw TB hcd gu hr), ?_⟩
    refine ⟨_, rfl, a, ns, rfl, ha, hl, fun m H1 cs gs sb hm => ?_⟩
    have tb1 : LamX.Tabs T H1 := sb.tabs _ fun p hp => LamX.TabS.nil (hpt p hp)
    refine ⟨⟨K, some { m with T := T }, [], fun _ => none, []⟩, rfl, ⟨⟨_, rfl, rfl⟩, fun _ _ z => nomatch z⟩, rfl, weak_none rfl, ⟨[], [.no, .mst, .no, .no, .no, .no, .no, .no, .no, .no, .no, .no], 0⟩, _, Rep.root (rep_of (X0 := []) (M := some { m with T := T }) (fun _ h => (nomatch h)) (fun _ h => (nomatch h)) (fun _ h => (nomatch h)) rfl ⟨cs, gs, 0, ⟨hm.hm, hm.hc, hm.hg, hm.lc, hm.bc, hm.lg, hm.bg⟩, Nat.le_refl _, tb1⟩ (fun i x e => ?_) (fun i p ds e => ?_)) rfl, r_law01 BC K ⟨fun _ => False, fun d _ => d = .bl true, fun _ => False, fun _ => False⟩ (fun _ => rfl), ?_⟩
    · match i, e with
      | 0, e => cases e; trivial
      | 1, e => cases e; exact ⟨_, rfl, rfl⟩
      | 2, e => cases e; trivial
      | 3, e => cases e; trivial
      | 4, e => cases e; trivial
      | 5, e => cases e; trivial
      | 6, e => cases e; trivial
      | 7, e => cases e; trivial
      | 8, e => cases e; trivial
      | 9, e => cases e; trivial
      | 10, e => cases e; trivial
      | 11, e => cases e; trivial
    · have mem := List.mem_of_getElem? e
      simp at mem
    · exact ⟨fun _ _ _ _ q => q.elim, fun _ _ _ _ q => q.elim, fun _ _ _ _ q => q.elim, fun d k v H' fi e r => by
        subst r
        cases e
        exact fin H'⟩
end
end BW
namespace BW
open PySem L2 DL
theorem toFun {K : PySem.W.Frag} {x qual : PySem.Str} {st : Stmt} {f : Addr} {fd : FuncData} (F : FunD K x qual (defArgs st) (defBody st) (defScope st) [] [] f fd) : Fun K x qual st f fd := by
  obtain ⟨oc, od, dV, kV, doc, pm, an, cdv, ct, osl, rfl, lk, hcd, hD, hK⟩ := F.ex
  rcases hD with ⟨_, rfl⟩ | ⟨e, _⟩
  · exact ⟨⟨oc, od, kV, doc, pm, an, cdv, ct, osl, rfl, lk, hcd⟩, F.kp⟩
  · exact absurd rfl e
set_option maxHeartbeats 0 in
theorem facts {P : Program} {w : World} {K : PySem.W.Frag} {h : Heap} {mg : PySem.Str → Option Value} {f0 : Addr} (X : K.In h) (G : h.Ns mainGlobals mg) (hfa : mg ("law" : PySem.Str) = some (.ref f0)) (c : He.SaysX fa fn tabL tfL exB w h K) :
    ∃ fd : FuncData, (∀ (s : Shared) (v : Value), BindsTo s fd ⟨[v], []⟩ [("script", v)]) ∧ ∀ base : Heap, K.In base → base.Ns mainGlobals mg → (∀ n ∈ tfL, LamX.TabB base mg (He.cT K n).1 (He.cT K n).2) → L2G.FnG P w K mg base 8 f0 fd ["script"] (spLaw K (TTof K lamL)) := by
  obtain ⟨fd_is_whole, D_is_whole⟩ := c.t.d.def_ 0 (d := dd "is_whole" 16) rfl
  have F_is_whole : Fun K "is_whole" "is_whole" (top 16) (He.fAd K ("is_whole", none)) fd_is_whole := toFun D_is_whole
  obtain ⟨fd_can_stand, D_can_stand⟩ := c.t.d.def_ 1 (d := dd "can_stand" 19) rfl
  have F_can_stand : Fun K "can_stand" "can_stand" (top 19) (He.fAd K ("can_stand", none)) fd_can_stand := toFun D_can_stand
  obtain ⟨fd_check_shape, D_check_shape⟩ := c.t.d.def_ 2 (d := dd "check_shape" 20) rfl
  have F_check_shape : Fun K "check_shape" "check_shape" (top 20) (He.fAd K ("check_shape", none)) fd_check_shape := toFun D_check_shape
  obtain ⟨fd_check_table, D_check_table⟩ := c.t.d.def_ 3 (d := dd "check_table" 21) rfl
  have F_check_table : Fun K "check_table" "check_table" (top 21) (He.fAd K ("check_table", none)) fd_check_table := toFun D_check_table
  obtain ⟨fd_weight_of, D_weight_of⟩ := c.t.d.def_ 4 (d := dd "weight_of" 22) rfl
  have F_weight_of : Fun K "weight_of" "weight_of" (top 22) (He.fAd K ("weight_of", none)) fd_weight_of := toFun D_weight_of
  obtain ⟨fd_weights_from, D_weights_from⟩ := c.t.d.def_ 5 (d := dd "weights_from" 23) rfl
  have F_weights_from : Fun K "weights_from" "weights_from" (top 23) (He.fAd K ("weights_from", none)) fd_weights_from := toFun D_weights_from
  obtain ⟨fd__law_mixed, D__law_mixed⟩ := c.t.d.def_ 6 (d := dd "_law_mixed" 26) rfl
  have F__law_mixed : Fun K "_law_mixed" "_law_mixed" (top 26) (He.fAd K ("_law_mixed", none)) fd__law_mixed := toFun D__law_mixed
  obtain ⟨fd__law_folded, D__law_folded⟩ := c.t.d.def_ 7 (d := dd "_law_folded" 27) rfl
  have F__law_folded : Fun K "_law_folded" "_law_folded" (top 27) (He.fAd K ("_law_folded", none)) fd__law_folded := toFun D__law_folded
  obtain ⟨fd__law_draw, D__law_draw⟩ := c.t.d.def_ 8 (d := dd "_law_draw" 28) rfl
  have F__law_draw : Fun K "_law_draw" "_law_draw" (top 28) (He.fAd K ("_law_draw", none)) fd__law_draw := toFun D__law_draw
  obtain ⟨fd__law_begun, D__law_begun⟩ := c.t.d.def_ 9 (d := dd "_law_begun" 29) rfl
  have F__law_begun : Fun K "_law_begun" "_law_begun" (top 29) (He.fAd K ("_law_begun", none)) fd__law_begun := toFun D__law_begun
  obtain ⟨fd__law_table, D__law_table⟩ := c.t.d.def_ 10 (d := dd "_law_table" 30) rfl
  have F__law_table : Fun K "_law_table" "_law_table" (top 30) (He.fAd K ("_law_table", none)) fd__law_table := toFun D__law_table
  obtain ⟨fd__law_class, D__law_class⟩ := c.t.d.def_ 11 (d := dd "_law_class" 31) rfl
  have F__law_class : Fun K "_law_class" "_law_class" (top 31) (He.fAd K ("_law_class", none)) fd__law_class := toFun D__law_class
  obtain ⟨fd__law_told, D__law_told⟩ := c.t.d.def_ 12 (d := dd "_law_told" 32) rfl
  have F__law_told : Fun K "_law_told" "_law_told" (top 32) (He.fAd K ("_law_told", none)) fd__law_told := toFun D__law_told
  obtain ⟨fd__law_due, D__law_due⟩ := c.t.d.def_ 13 (d := dd "_law_due" 33) rfl
  have F__law_due : Fun K "_law_due" "_law_due" (top 33) (He.fAd K ("_law_due", none)) fd__law_due := toFun D__law_due
  obtain ⟨fd__law_spoiled, D__law_spoiled⟩ := c.t.d.def_ 14 (d := dd "_law_spoiled" 34) rfl
  have F__law_spoiled : Fun K "_law_spoiled" "_law_spoiled" (top 34) (He.fAd K ("_law_spoiled", none)) fd__law_spoiled := toFun D__law_spoiled
  obtain ⟨fd_law, D_law⟩ := c.t.d.def_ 15 (d := dd "law" 35) rfl
  have F_law : Fun K "law" "law" (top 35) (He.fAd K ("law", none)) fd_law := toFun D_law
  obtain ⟨fd_init, D_init⟩ := c.t.d.def_ 16 (d := dm "Bonds" "__init__" "Bonds.__init__" 24 0) rfl
  obtain ⟨fd_len, D_len⟩ := c.t.d.def_ 17 (d := dm "Bonds" "__len__" "Bonds.__len__" 24 1) rfl
  obtain ⟨fd_eq, D_eq⟩ := c.t.d.def_ 20 (d := dm "Bonds" "__eq__" "Bonds.__eq__" 24 2) rfl
  have F_eq : Fun K "__eq__" "Bonds.__eq__" s_eq (He.fAd K ("Bonds", some "__eq__")) fd_eq := toFun D_eq
  have F_init : Fun K "__init__" "Bonds.__init__" s_init (He.fAd K ("Bonds", some "__init__")) fd_init := toFun D_init
  have F_len : Fun K "__len__" "Bonds.__len__" s_len (He.fAd K ("Bonds", some "__len__")) fd_len := toFun D_len
  have e0 := hfa.symm.trans (He.glo_ok X G (c.t.d.fact 15 (f := .glo "law") rfl))
  cases e0
  have cmore := c.more
  obtain ⟨cown, cmore⟩ := Bool.and_eq_true_iff.mp cmore
  have gW : KdAt P w K mg "WEIGHTS" kd_WEIGHTS := kdB_ok (kvs := wts0) (Bool.and_eq_true_iff.mp cmore).1 (He.glo_ok X G (c.t.d.fact 35 (f := .glo "WEIGHTS") rfl)) (by decide)
  have gC : Cls K (He.ga K "Bonds") := He.cls_ok (c.t.d.fact 30 (f := .cls "Bonds") rfl)
  have gT : NoAttr K (He.ga K "Bonds") "table" := He.noat_ok (c.t.d.fact 31 (f := .noat "Bonds" "table") rfl)
  have gV : NoAttr K (He.ga K "Bonds") "weights" := He.noat_ok (c.t.d.fact 32 (f := .noat "Bonds" "weights") rfl)
  have ownO : OwnK K (He.ga K "Bonds") (He.fAd K ("Bonds", some "__eq__")) := ownB_ok gC cown
  have b0 := FunD.bindsA (ps := ["script"]) D_law fun _ _ _ _ _ _ us hl => match us, hl with | [_], _ => rfl
  obtain ⟨xk, xm⟩ := Bool.and_eq_true_iff.mp cmore
  obtain ⟨xn, xm⟩ := Bool.and_eq_true_iff.mp xm
  have hnd : (lamL.map fun x => (He.cT K x.1).2).Nodup := of_decide_eq_true xn
  obtain ⟨xa, xm⟩ := Bool.and_eq_true_iff.mp xm
  obtain ⟨xe, xt⟩ := Bool.and_eq_true_iff.mp xm
  have hX : XAll K := xallB_ok xa
  have hE := exmB_ok xe
  obtain ⟨xt_BadBonds, xt⟩ := Bool.and_eq_true_iff.mp xt
  obtain ⟨fd_init_BadBonds, D_init_BadBonds⟩ := c.t.d.def_ 18 (d := dm "BadBonds" "__init__" "BadBonds.__init__" 3 0) rfl
  have x_BadBonds : XE1.Txt K mg "BadBonds" "place" (He.ga K "BadBonds") (He.fAd K ("BadBonds", some "__init__")) := txtB_ok XE1.baseV xt_BadBonds (He.glo_ok X G (c.t.d.fact 37 (f := .glo "BadBonds") rfl)) (.inl rfl) D_init_BadBonds
  obtain ⟨xt_TooGreat, xt⟩ := Bool.and_eq_true_iff.mp xt
  obtain ⟨fd_init_TooGreat, D_init_TooGreat⟩ := c.t.d.def_ 19 (d := dm "TooGreat" "__init__" "TooGreat.__init__" 9 0) rfl
  have x_TooGreat : XE1.Txt K mg "TooGreat" "most" (He.ga K "TooGreat") (He.fAd K ("TooGreat", some "__init__")) := txtB_ok XE1.baseO xt_TooGreat (He.glo_ok X G (c.t.d.fact 43 (f := .glo "TooGreat") rfl)) (.inr (.inr rfl)) D_init_TooGreat
  refine ⟨fd_law, fun s v => b0 s [v] rfl, fun base hb hn TB => ?_⟩
  have ok__law_folded := T7.ok__law_folded (P := P) (w := w) (base := base) (mg := mg) (K := K) (f := He.fAd K ("_law_folded", none)) (fd := fd__law_folded) F__law_folded (He.free_ok X G (c.t.d.fact 22 (f := .free "range") rfl)) (He.free_ok X G (c.t.d.fact 23 (f := .free "enumerate") rfl)) (He.free_ok X G (c.t.d.fact 17 (f := .free "int") rfl))
  have ok__law_begun := T7.ok__law_begun (P := P) (w := w) (base := base) (mg := mg) F__law_begun ok__law_folded (He.glo_ok X G (c.t.d.fact 7 (f := .glo "_law_folded") rfl)) D__law_folded.kp (D__law_folded.bindsN fun _ _ _ _ _ _ us hl => match us, hl with | [_], _ => rfl)
  have ok__law_mixed : FnOk P w K mg base CX0 1 _ fd__law_mixed ["cell", "n"] (spD K false sp__law_mixed) := okD F__law_mixed sc__law_mixed [] (by intro ds k R h; first | (rcases h with ⟨_, _, _, rfl, _⟩ | ⟨rfl, _⟩ <;> rfl) | (obtain ⟨rfl, _⟩ := h; rfl) | (obtain ⟨_, rfl, _⟩ := h; rfl) | (obtain ⟨_, _, rfl, _⟩ := h; rfl) | (obtain ⟨_, _, _, rfl, _⟩ := h; rfl) | (obtain ⟨_, _, _, _, rfl, _⟩ := h; rfl) | (obtain ⟨_, _, _, _, _, rfl, _⟩ := h; rfl) | (obtain ⟨_, _, _, _, _, _, rfl, _⟩ := h; rfl) | (obtain ⟨_, _, _, _, _, _, _, rfl, _⟩ := h; rfl)) ⟨_, fun cdv A outer s H E M X0 hr => w__law_mixed (P := P) (w := w) (base := base) (g_int := (He.free_ok X G (c.t.d.fact 17 (f := .free "int") rfl))) _ _ cdv A outer s H E M X0 hr, r__law_mixed⟩
  have c__law_mixed : CalD P w K mg base 1 "_law_mixed" false sp__law_mixed := ⟨_, _, ["cell", "n"], ok__law_mixed, (He.glo_ok X G (c.t.d.fact 6 (f := .glo "_law_mixed") rfl)), D__law_mixed.kp, D__law_mixed.bindsN fun _ _ _ _ _ _ us hl => match us, hl with | [_, _], _ => rfl⟩
  have ok__law_draw : FnOk P w K mg base CX0 2 _ fd__law_draw ["m", "limit"] (spD K true sp__law_draw) := T7.ok__law_draw (fm := 0) F__law_draw c__law_mixed (He.free_ok X G (c.t.d.fact 21 (f := .free "len") rfl)) (He.free_ok X G (c.t.d.fact 17 (f := .free "int") rfl))
  have c__law_draw : CalD P w K mg base 2 "_law_draw" true sp__law_draw := ⟨_, _, ["m", "limit"], ok__law_draw, (He.glo_ok X G (c.t.d.fact 8 (f := .glo "_law_draw") rfl)), D__law_draw.kp, D__law_draw.bindsN fun _ _ _ _ _ _ us hl => match us, hl with | [_, _], _ => rfl⟩
  have ok__law_table := ok__law_table (P := P) (w := w) (base := base) (mg := mg) F__law_table (He.free_ok X G (c.t.d.fact 22 (f := .free "range") rfl)) c__law_draw
  have c__law_table : CalD P w K mg base 3 "_law_table" true sp__law_table := ⟨_, _, ["m", "most"], ok__law_table, (He.glo_ok X G (c.t.d.fact 10 (f := .glo "_law_table") rfl)), D__law_table.kp, D__law_table.bindsN fun _ _ _ _ _ _ us hl => match us, hl with | [_, _], _ => rfl⟩
  have ok_check_shape : FnOk P w K mg base CX0 1 _ fd_check_shape ["rows"] (spD K false sp_check_shapeU) := okD F_check_shape sc_check_shape [] (by intro ds k R h; first | (rcases h with ⟨_, _, _, rfl, _⟩ | ⟨rfl, _⟩ <;> rfl) | (obtain ⟨rfl, _⟩ := h; rfl) | (obtain ⟨_, rfl, _⟩ := h; rfl) | (obtain ⟨_, _, rfl, _⟩ := h; rfl) | (obtain ⟨_, _, _, rfl, _⟩ := h; rfl) | (obtain ⟨_, _, _, _, rfl, _⟩ := h; rfl) | (obtain ⟨_, _, _, _, _, rfl, _⟩ := h; rfl) | (obtain ⟨_, _, _, _, _, _, rfl, _⟩ := h; rfl) | (obtain ⟨_, _, _, _, _, _, _, rfl, _⟩ := h; rfl)) ⟨_, fun cdv A outer s H E M X0 hr => w_check_shape (P := P) (w := w) (base := base) (g_isinstance := (He.free_ok X G (c.t.d.fact 16 (f := .free "isinstance") rfl))) (g_list := (He.free_ok X G (c.t.d.fact 19 (f := .free "list") rfl))) (g_tuple := (He.free_ok X G (c.t.d.fact 20 (f := .free "tuple") rfl))) (g_len := (He.free_ok X G (c.t.d.fact 21 (f := .free "len") rfl))) (g_MOST_LETTERS := (He.int_ok X G (c.t.d.fact 25 (f := .int "MOST_LETTERS" (6)) rfl))) _ _ cdv A outer s H E M X0 hr, r_check_shapeU⟩
  have c_check_shape : CalD P w K mg base 1 "check_shape" false sp_check_shapeU := ⟨_, _, ["rows"], ok_check_shape, (He.glo_ok X G (c.t.d.fact 2 (f := .glo "check_shape") rfl)), D_check_shape.kp, D_check_shape.bindsN fun _ _ _ _ _ _ us hl => match us, hl with | [_], _ => rfl⟩
  have ok_is_whole : FnOk P w K mg base CX0 1 _ fd_is_whole ["value"] (spD K false sp_is_whole) := okD F_is_whole sc_is_whole [] (by intro ds k R h; first | (rcases h with ⟨_, _, _, rfl, _⟩ | ⟨rfl, _⟩ <;> rfl) | (obtain ⟨rfl, _⟩ := h; rfl) | (obtain ⟨_, rfl, _⟩ := h; rfl) | (obtain ⟨_, _, rfl, _⟩ := h; rfl) | (obtain ⟨_, _, _, rfl, _⟩ := h; rfl) | (obtain ⟨_, _, _, _, rfl, _⟩ := h; rfl) | (obtain ⟨_, _, _, _, _, rfl, _⟩ := h; rfl) | (obtain ⟨_, _, _, _, _, _, rfl, _⟩ := h; rfl) | (obtain ⟨_, _, _, _, _, _, _, rfl, _⟩ := h; rfl)) ⟨_, fun cdv A outer s H E M X0 hr => w_is_whole (P := P) (w := w) (base := base) (g_isinstance := (He.free_ok X G (c.t.d.fact 16 (f := .free "isinstance") rfl))) (g_int := (He.free_ok X G (c.t.d.fact 17 (f := .free "int") rfl))) (g_bool := (He.free_ok X G (c.t.d.fact 18 (f := .free "bool") rfl))) _ _ cdv A outer s H E M X0 hr, r_is_whole⟩
  have c_is_whole : CalD P w K mg base 1 "is_whole" false sp_is_whole := ⟨_, _, ["value"], ok_is_whole, (He.glo_ok X G (c.t.d.fact 0 (f := .glo "is_whole") rfl)), D_is_whole.kp, D_is_whole.bindsN fun _ _ _ _ _ _ us hl => match us, hl with | [_], _ => rfl⟩
  have ok_can_stand : FnOk P w K mg base CX0 2 _ fd_can_stand ["rows", "one", "other"] (spD K false sp_can_standU) := okD F_can_stand sc_can_stand [] (by intro ds k R h; first | (rcases h with ⟨_, _, _, rfl, _⟩ | ⟨rfl, _⟩ <;> rfl) | (obtain ⟨rfl, _⟩ := h; rfl) | (obtain ⟨_, rfl, _⟩ := h; rfl) | (obtain ⟨_, _, rfl, _⟩ := h; rfl) | (obtain ⟨_, _, _, rfl, _⟩ := h; rfl) | (obtain ⟨_, _, _, _, rfl, _⟩ := h; rfl) | (obtain ⟨_, _, _, _, _, rfl, _⟩ := h; rfl) | (obtain ⟨_, _, _, _, _, _, rfl, _⟩ := h; rfl) | (obtain ⟨_, _, _, _, _, _, _, rfl, _⟩ := h; rfl)) ⟨_, fun cdv A outer s H E M X0 hr => w_can_stand (P := P) (w := w) (base := base) (g_OWN_BOND := (He.int_ok X G (c.t.d.fact 27 (f := .int "OWN_BOND" (1)) rfl))) (g_WEIGHTS := gW) (c_is_whole := c_is_whole) _ _ cdv A outer s H E M X0 hr, r_can_standU⟩
  have c_can_stand : CalD P w K mg base 2 "can_stand" false sp_can_standU := ⟨_, _, ["rows", "one", "other"], ok_can_stand, (He.glo_ok X G (c.t.d.fact 1 (f := .glo "can_stand") rfl)), D_can_stand.kp, D_can_stand.bindsN fun _ _ _ _ _ _ us hl => match us, hl with | [_, _, _], _ => rfl⟩
  have ok_check_table : FnOk P w K mg base CX0 3 _ fd_check_table ["rows"] (spD K false sp_check_tableU) := okD F_check_table sc_check_table [] (by intro ds k R h; first | (rcases h with ⟨_, _, _, rfl, _⟩ | ⟨rfl, _⟩ <;> rfl) | (obtain ⟨rfl, _⟩ := h; rfl) | (obtain ⟨_, rfl, _⟩ := h; rfl) | (obtain ⟨_, _, rfl, _⟩ := h; rfl) | (obtain ⟨_, _, _, rfl, _⟩ := h; rfl) | (obtain ⟨_, _, _, _, rfl, _⟩ := h; rfl) | (obtain ⟨_, _, _, _, _, rfl, _⟩ := h; rfl) | (obtain ⟨_, _, _, _, _, _, rfl, _⟩ := h; rfl) | (obtain ⟨_, _, _, _, _, _, _, rfl, _⟩ := h; rfl)) ⟨_, fun cdv A outer s H E M X0 hr => w_check_table (P := P) (w := w) (base := base) (g_list := (He.free_ok X G (c.t.d.fact 19 (f := .free "list") rfl))) (g_range := (He.free_ok X G (c.t.d.fact 22 (f := .free "range") rfl))) (g_len := (He.free_ok X G (c.t.d.fact 21 (f := .free "len") rfl))) (c_check_shape := c_check_shape) (c_can_stand := c_can_stand) _ _ cdv A outer s H E M X0 hr, r_check_tableU⟩
  have c_check_table : CalD P w K mg base 3 "check_table" false sp_check_tableU := ⟨_, _, ["rows"], ok_check_table, (He.glo_ok X G (c.t.d.fact 3 (f := .glo "check_table") rfl)), D_check_table.kp, D_check_table.bindsN fun _ _ _ _ _ _ us hl => match us, hl with | [_], _ => rfl⟩
  have ok_weight_of : FnOk P w K mg base CX0 1 _ fd_weight_of ["table", "one", "other"] (spD K false sp_weight_of) := okD F_weight_of sc_weight_of [] (by intro ds k R h; first | (rcases h with ⟨_, _, _, rfl, _⟩ | ⟨rfl, _⟩ <;> rfl) | (obtain ⟨rfl, _⟩ := h; rfl) | (obtain ⟨_, rfl, _⟩ := h; rfl) | (obtain ⟨_, _, rfl, _⟩ := h; rfl) | (obtain ⟨_, _, _, rfl, _⟩ := h; rfl) | (obtain ⟨_, _, _, _, rfl, _⟩ := h; rfl) | (obtain ⟨_, _, _, _, _, rfl, _⟩ := h; rfl) | (obtain ⟨_, _, _, _, _, _, rfl, _⟩ := h; rfl) | (obtain ⟨_, _, _, _, _, _, _, rfl, _⟩ := h; rfl)) ⟨_, fun cdv A outer s H E M X0 hr => w_weight_of (P := P) (w := w) (base := base) (g_OWN_WEIGHT := (He.int_ok X G (c.t.d.fact 28 (f := .int "OWN_WEIGHT" (-2)) rfl))) (g_WEIGHTS := gW) _ _ cdv A outer s H E M X0 hr, r_weight_of⟩
  have c_weight_of : CalD P w K mg base 1 "weight_of" false sp_weight_of := ⟨_, _, ["table", "one", "other"], ok_weight_of, (He.glo_ok X G (c.t.d.fact 4 (f := .glo "weight_of") rfl)), D_weight_of.kp, D_weight_of.bindsN fun _ _ _ _ _ _ us hl => match us, hl with | [_, _, _], _ => rfl⟩
  have ok_weights_from : FnOk P w K mg base CX0 2 _ fd_weights_from ["table", "one"] (spD K false sp_weights_from) := okD F_weights_from sc_weights_from [] (by intro ds k R h; first | (rcases h with ⟨_, _, _, rfl, _⟩ | ⟨rfl, _⟩ <;> rfl) | (obtain ⟨rfl, _⟩ := h; rfl) | (obtain ⟨_, rfl, _⟩ := h; rfl) | (obtain ⟨_, _, rfl, _⟩ := h; rfl) | (obtain ⟨_, _, _, rfl, _⟩ := h; rfl) | (obtain ⟨_, _, _, _, rfl, _⟩ := h; rfl) | (obtain ⟨_, _, _, _, _, rfl, _⟩ := h; rfl) | (obtain ⟨_, _, _, _, _, _, rfl, _⟩ := h; rfl) | (obtain ⟨_, _, _, _, _, _, _, rfl, _⟩ := h; rfl)) ⟨_, fun cdv A outer s H E M X0 hr => w_weights_from (P := P) (w := w) (base := base) (g_tuple := (He.free_ok X G (c.t.d.fact 20 (f := .free "tuple") rfl))) (g_range := (He.free_ok X G (c.t.d.fact 22 (f := .free "range") rfl))) (g_len := (He.free_ok X G (c.t.d.fact 21 (f := .free "len") rfl))) (c_weight_of := c_weight_of) _ _ cdv A outer s H E M X0 hr, r_weights_from⟩
  have c_weights_from : CalD P w K mg base 2 "weights_from" false sp_weights_from := ⟨_, _, ["table", "one"], ok_weights_from, (He.glo_ok X G (c.t.d.fact 5 (f := .glo "weights_from") rfl)), D_weights_from.kp, D_weights_from.bindsN fun _ _ _ _ _ _ us hl => match us, hl with | [_, _], _ => rfl⟩
  have c_Bonds : MakD P w K mg base 4 "Bonds" (He.ga K "Bonds") (sp_BondsU (He.ga K "Bonds")) := ⟨_, _, ["self", "rows"], He.mkr_ok (c.t.d.fact 33 (f := .mkr "Bonds") rfl), ok_init F_init (He.free_ok X G (c.t.d.fact 20 (f := .free "tuple") rfl)) (He.free_ok X G (c.t.d.fact 22 (f := .free "range") rfl)) (He.free_ok X G (c.t.d.fact 21 (f := .free "len") rfl)) c_check_table c_weights_from gC gT gV, (He.glo_ok X G (c.t.d.fact 29 (f := .glo "Bonds") rfl)), D_init.bindsN fun _ _ _ _ _ _ us hl => match us, hl with | [_, _], _ => rfl⟩
  have ok__law_spoiled : FnOk P w K mg base CX0 3 (He.fAd K ("_law_spoiled", none)) fd__law_spoiled ["m", "rows"] (spDW K sp__law_spoiled01) := okDW F__law_spoiled sc__law_spoiled [2] (by intro ds k R h; first | (rcases h with ⟨_, _, _, rfl, _⟩ | ⟨rfl, _⟩ <;> rfl) | (obtain ⟨rfl, _⟩ := h; rfl) | (obtain ⟨_, rfl, _⟩ := h; rfl) | (obtain ⟨_, _, rfl, _⟩ := h; rfl) | (obtain ⟨_, _, _, rfl, _⟩ := h; rfl) | (obtain ⟨_, _, _, _, rfl, _⟩ := h; rfl) | (obtain ⟨_, _, _, _, _, rfl, _⟩ := h; rfl) | (obtain ⟨_, _, _, _, _, _, rfl, _⟩ := h; rfl) | (obtain ⟨_, _, _, _, _, _, _, rfl, _⟩ := h; rfl)) ⟨_, fun cdv A outer s H E c0 hc ho hw hr => w__law_spoiled (P := P) (w := w) (base := base) (g_list := (He.free_ok X G (c.t.d.fact 19 (f := .free "list") rfl))) (g_len := (He.free_ok X G (c.t.d.fact 21 (f := .free "len") rfl))) (g_range := (He.free_ok X G (c.t.d.fact 22 (f := .free "range") rfl))) (c__law_draw := c__law_draw) _ _ cdv A outer s H E hc ho hw hr, r__law_spoiled01⟩
  have c__law_spoiled : CalDW P w K mg base 3 "_law_spoiled" sp__law_spoiled01 := ⟨_, _, ["m", "rows"], ok__law_spoiled, (He.glo_ok X G (c.t.d.fact 14 (f := .glo "_law_spoiled") rfl)), D__law_spoiled.kp, D__law_spoiled.bindsN fun _ _ _ _ _ _ us hl => match us, hl with | [_, _], _ => rfl⟩
  have ok__law_due : FnOk P w K mg base CX0 1 _ fd__law_due ["rows"] (spD K false sp__law_dueB) := okD F__law_due sc__law_due [] (by intro ds k R h; first | (rcases h with ⟨_, _, _, rfl, _⟩ | ⟨rfl, _⟩ <;> rfl) | (obtain ⟨rfl, _⟩ := h; rfl) | (obtain ⟨_, rfl, _⟩ := h; rfl) | (obtain ⟨_, _, rfl, _⟩ := h; rfl) | (obtain ⟨_, _, _, rfl, _⟩ := h; rfl) | (obtain ⟨_, _, _, _, rfl, _⟩ := h; rfl) | (obtain ⟨_, _, _, _, _, rfl, _⟩ := h; rfl) | (obtain ⟨_, _, _, _, _, _, rfl, _⟩ := h; rfl) | (obtain ⟨_, _, _, _, _, _, _, rfl, _⟩ := h; rfl)) ⟨_, fun cdv A outer s H E M X0 hr => w__law_due (P := P) (w := w) (base := base) (g_len := (He.free_ok X G (c.t.d.fact 21 (f := .free "len") rfl))) (g_isinstance := (He.free_ok X G (c.t.d.fact 16 (f := .free "isinstance") rfl))) (g_list := (He.free_ok X G (c.t.d.fact 19 (f := .free "list") rfl))) (g_tuple := (He.free_ok X G (c.t.d.fact 20 (f := .free "tuple") rfl))) (g_range := (He.free_ok X G (c.t.d.fact 22 (f := .free "range") rfl))) (g_int := (He.free_ok X G (c.t.d.fact 17 (f := .free "int") rfl))) (g_bool := (He.free_ok X G (c.t.d.fact 18 (f := .free "bool") rfl))) _ _ cdv A outer s H E M X0 hr, r__law_dueB⟩
  have c__law_due : CalD P w K mg base 1 "_law_due" false sp__law_dueB := ⟨_, _, ["rows"], ok__law_due, (He.glo_ok X G (c.t.d.fact 13 (f := .glo "_law_due") rfl)), D__law_due.kp, D__law_due.bindsN fun _ _ _ _ _ _ us hl => match us, hl with | [_], _ => rfl⟩
  have ok_can_standX : FnOk P w K mg base CX0 2 _ fd_can_stand ["rows", "one", "other"] (spD K false sp_can_standXU) := okD F_can_stand sc_can_stand [] (by intro ds k R h; first | (rcases h with ⟨_, _, _, rfl, _⟩ | ⟨rfl, _⟩ <;> rfl) | (obtain ⟨rfl, _⟩ := h; rfl) | (obtain ⟨_, rfl, _⟩ := h; rfl) | (obtain ⟨_, _, rfl, _⟩ := h; rfl) | (obtain ⟨_, _, _, rfl, _⟩ := h; rfl) | (obtain ⟨_, _, _, _, rfl, _⟩ := h; rfl) | (obtain ⟨_, _, _, _, _, rfl, _⟩ := h; rfl) | (obtain ⟨_, _, _, _, _, _, rfl, _⟩ := h; rfl) | (obtain ⟨_, _, _, _, _, _, _, rfl, _⟩ := h; rfl)) ⟨_, fun cdv A outer s H E M X0 hr => w_can_stand (P := P) (w := w) (base := base) (g_OWN_BOND := (He.int_ok X G (c.t.d.fact 27 (f := .int "OWN_BOND" (1)) rfl))) (g_WEIGHTS := gW) (c_is_whole := c_is_whole) _ _ cdv A outer s H E M X0 hr, r_can_standX⟩
  have c_can_standX : CalD P w K mg base 2 "can_stand" false sp_can_standXU := ⟨_, _, ["rows", "one", "other"], ok_can_standX, (He.glo_ok X G (c.t.d.fact 1 (f := .glo "can_stand") rfl)), D_can_stand.kp, D_can_stand.bindsN fun _ _ _ _ _ _ us hl => match us, hl with | [_, _, _], _ => rfl⟩
  have okX_check_shape : FnOk P w K mg base (L2.CX P w) 1 _ fd_check_shape ["rows"] (spDX K false (spX_check_shapeB)) := okDX F_check_shape sc_check_shape [] (by intro ds k R E h; first | (obtain ⟨_, rfl, _⟩ := h; rfl) | (obtain ⟨_, _, rfl, _⟩ := h; rfl) | (obtain ⟨_, _, _, rfl, _⟩ := h; rfl) | (obtain ⟨_, _, _, _, rfl, _⟩ := h; rfl) | (obtain ⟨_, _, _, _, _, rfl, _⟩ := h; rfl) | (obtain ⟨_, _, _, _, _, _, rfl, _⟩ := h; rfl)) ⟨tX_check_shapeB, fun cdv A outer s H E M X0 Ex hr tk => wX_check_shape (P := P) (w := w) (base := base) (g_isinstance := (He.free_ok X G (c.t.d.fact 16 (f := .free "isinstance") rfl))) (g_list := (He.free_ok X G (c.t.d.fact 19 (f := .free "list") rfl))) (g_tuple := (He.free_ok X G (c.t.d.fact 20 (f := .free "tuple") rfl))) (g_len := (He.free_ok X G (c.t.d.fact 21 (f := .free "len") rfl))) (g_MOST_LETTERS := (He.int_ok X G (c.t.d.fact 25 (f := .int "MOST_LETTERS" (6)) rfl))) (x_BadBonds := x_BadBonds) (x_TooGreat := x_TooGreat) _ _ cdv A outer s H E M X0 Ex hr tk, fun X ds k R E h => rX_check_shapeB X ds k R E h⟩
  have cX_check_shape : CalX P w K mg base 1 "check_shape" (spX_check_shapeB) := ⟨_, _, ["rows"], okX_check_shape, (He.glo_ok X G (c.t.d.fact 2 (f := .glo "check_shape") rfl)), D_check_shape.kp, D_check_shape.bindsN fun _ _ _ _ _ _ us hl => match us, hl with | [_], _ => rfl⟩
  have okX_check_table : FnOk P w K mg base (L2.CX P w) 3 _ fd_check_table ["rows"] (spDX K false (spX_check_tableB)) := okDX F_check_table sc_check_table [] (by intro ds k R E h; first | (obtain ⟨_, rfl, _⟩ := h; rfl) | (obtain ⟨_, _, rfl, _⟩ := h; rfl) | (obtain ⟨_, _, _, rfl, _⟩ := h; rfl) | (obtain ⟨_, _, _, _, rfl, _⟩ := h; rfl) | (obtain ⟨_, _, _, _, _, rfl, _⟩ := h; rfl) | (obtain ⟨_, _, _, _, _, _, rfl, _⟩ := h; rfl)) ⟨tX_check_tableB, fun cdv A outer s H E M X0 Ex hr tk => wX_check_table (P := P) (w := w) (base := base) (g_list := (He.free_ok X G (c.t.d.fact 19 (f := .free "list") rfl))) (g_range := (He.free_ok X G (c.t.d.fact 22 (f := .free "range") rfl))) (g_len := (He.free_ok X G (c.t.d.fact 21 (f := .free "len") rfl))) (x_BadBonds := x_BadBonds) (c_can_standX := c_can_standX) (cX_check_shape := cX_check_shape) _ _ cdv A outer s H E M X0 Ex hr tk, fun X ds k R E h => rX_check_tableB X ds k R E h⟩
  have cX_check_table : CalX P w K mg base 3 "check_table" (spX_check_tableB) := ⟨_, _, ["rows"], okX_check_table, (He.glo_ok X G (c.t.d.fact 3 (f := .glo "check_table") rfl)), D_check_table.kp, D_check_table.bindsN fun _ _ _ _ _ _ us hl => match us, hl with | [_], _ => rfl⟩
  have cB_Bonds : MakB P w K mg base 4 "Bonds" spX_mk_Bonds := ⟨He.ga K "Bonds", _, _, ["self", "rows"], He.mkr_ok (c.t.d.fact 33 (f := .mkr "Bonds") rfl), ok_initX F_init cX_check_table, (He.glo_ok X G (c.t.d.fact 29 (f := .glo "Bonds") rfl)), D_init.bindsN fun _ _ _ _ _ _ us hl => match us, hl with | [_, _], _ => rfl⟩
  have c_eq : EqD P w K mg base 1 (He.ga K "Bonds") (sp_eq (He.ga K "Bonds")) := ⟨_, _, ["self", "other"], ownO, ok_eq F_eq ownO (He.free_ok X G (c.t.d.fact 16 (f := .free "isinstance") rfl)) (He.glo_ok X G (c.t.d.fact 29 (f := .glo "Bonds") rfl)) gT, D_eq.bindsN fun _ _ _ _ _ _ us hl => match us, hl with | [_, _], _ => rfl⟩
  have c_len_Bonds : LenD P w K mg base 1 (He.ga K "Bonds") (sp_len_Bonds (He.ga K "Bonds")) := ⟨_, _, ["self"], He.meth_ok (c.t.d.fact 34 (f := .meth "Bonds" "__len__") rfl), ok_len F_len (He.free_ok X G (c.t.d.fact 21 (f := .free "len") rfl)) gC gT, D_len.bindsN fun _ _ _ _ _ _ us hl => match us, hl with | [_], _ => rfl⟩
  have ok__law_class : FnOk P w K mg base CX0 1 _ fd__law_class ["error"] (spD K false (sp__law_classU K)) := okD F__law_class sc__law_class [1] (by intro ds k R h; first | (rcases h with ⟨_, _, _, rfl, _⟩ | ⟨rfl, _⟩ <;> rfl) | (obtain ⟨rfl, _⟩ := h; rfl) | (obtain ⟨_, rfl, _⟩ := h; rfl) | (obtain ⟨_, _, rfl, _⟩ := h; rfl) | (obtain ⟨_, _, _, rfl, _⟩ := h; rfl) | (obtain ⟨_, _, _, _, rfl, _⟩ := h; rfl) | (obtain ⟨_, _, _, _, _, rfl, _⟩ := h; rfl) | (obtain ⟨_, _, _, _, _, _, rfl, _⟩ := h; rfl) | (obtain ⟨_, _, _, _, _, _, _, rfl, _⟩ := h; rfl)) ⟨_, fun cdv A outer s H E M X0 hr => w__law_class (P := P) (w := w) (base := base) (g_isinstance := (He.free_ok X G (c.t.d.fact 16 (f := .free "isinstance") rfl))) (g_len := (He.free_ok X G (c.t.d.fact 21 (f := .free "len") rfl))) (m_BadBonds := (He.glo_ok X G (c.t.d.fact 37 (f := .glo "BadBonds") rfl))) (m_BadWord := (He.glo_ok X G (c.t.d.fact 38 (f := .glo "BadWord") rfl))) (m_BadRow := (He.glo_ok X G (c.t.d.fact 39 (f := .glo "BadRow") rfl))) (m_BadDeed := (He.glo_ok X G (c.t.d.fact 40 (f := .glo "BadDeed") rfl))) (m_BadNumber := (He.glo_ok X G (c.t.d.fact 41 (f := .glo "BadNumber") rfl))) (m_Unlike := (He.glo_ok X G (c.t.d.fact 42 (f := .glo "Unlike") rfl))) (m_TooGreat := (He.glo_ok X G (c.t.d.fact 43 (f := .glo "TooGreat") rfl))) _ _ cdv A outer s H E M X0 hr, r__law_classU K hX⟩
  have c__law_class : CalD P w K mg base 1 "_law_class" false (sp__law_classU K) := ⟨_, _, ["error"], ok__law_class, (He.glo_ok X G (c.t.d.fact 11 (f := .glo "_law_class") rfl)), D__law_class.kp, D__law_class.bindsN fun _ _ _ _ _ _ us hl => match us, hl with | [_], _ => rfl⟩
  have tst : ToldSt P w K mg base (top 32) := ⟨_, _, _, _, _, _, _, _, _, _, _, _, _, _, _, _, _, _, _, _, _, _, _, _, _, _, _, _, _, rfl, rfl, fun _ _ _ _ _ _ => rfl⟩
  have td : TdB P w K mg base 5 T6N (sp__law_classU K) := ⟨top 32, _, _, _, _, _, _, F__law_told, D__law_told.bindsN (fun _ _ _ _ _ _ us hl => match us, hl with | [_], _ => rfl), (He.glo_ok X G (c.t.d.fact 12 (f := .glo "_law_told") rfl)), (He.glo_ok X G (c.t.d.fact 36 (f := .glo "BondError") rfl)), (He.glo_ok X G (c.t.d.fact 43 (f := .glo "TooGreat") rfl)), (He.glo_ok X G (c.t.d.fact 11 (f := .glo "_law_class") rfl)), D__law_class.kp, ok__law_class.mono (by decide), D__law_class.bindsN (fun _ _ _ _ _ _ us hl => match us, hl with | [_], _ => rfl), hE, tst⟩
  exact ok_law (T := TTof K lamL) (g_range := (He.free_ok X G (c.t.d.fact 22 (f := .free "range") rfl))) (g_tuple := (He.free_ok X G (c.t.d.fact 20 (f := .free "tuple") rfl))) (g_repr := (He.free_ok X G (c.t.d.fact 24 (f := .free "repr") rfl))) (g_len := (He.free_ok X G (c.t.d.fact 21 (f := .free "len") rfl))) (g_isinstance := (He.free_ok X G (c.t.d.fact 16 (f := .free "isinstance") rfl))) (g_list := (He.free_ok X G (c.t.d.fact 19 (f := .free "list") rfl))) (g_MOST_LETTERS := (He.int_ok X G (c.t.d.fact 25 (f := .int "MOST_LETTERS" (6)) rfl))) (g_MOST_WORD := (He.int_ok X G (c.t.d.fact 26 (f := .int "MOST_WORD" (60)) rfl))) (td := td) (c__law_table := c__law_table) (c__law_draw := c__law_draw) (c_Bonds := c_Bonds) (c__law_spoiled := c__law_spoiled) (c__law_due := c__law_due) (c_len_Bonds := c_len_Bonds) (c_eq := c_eq) (cB_Bonds := cB_Bonds) (g_Bonds := gC) (g_Bonds_table := gT) F_law ok__law_begun (He.glo_ok X G (c.t.d.fact 9 (f := .glo "_law_begun") rfl)) D__law_begun.kp (D__law_begun.bindsN fun _ _ _ _ _ _ us hl => match us, hl with | [_], _ => rfl) (Pt := (He.cT K ("law", none)).2) (inT_of hnd (x := (("law", none), lamQ)) (List.mem_cons_self)) (TB ("law", none) (List.mem_cons_self))
theorem ob_eq (s : PySem.W.SharedT) : ob s = hk.obs s.abs := He.obsX_eq (HandSHeadRun.getT_eq s)
end BW
set_option maxHeartbeats 0
namespace BW
open PySem PySem.Spec PyProof.Rows L2
theorem run (w : World) : HandSHeadRun.RunEq R (PySem.W.view R.prog [35]) hk ob 6000 names w := PySem.W.byRow2 "special-get-raises" (P := PR) run0 run1 w
end BW
open PySem PySem.W PyProof.Rows
set_option maxRecDepth 100000 in
set_option maxHeartbeats 0 in
theorem PySem.Challenge.cw_bondwords_k01_bonds_made_holds : PySem.Challenge.rw_bondwords_k01_bonds_made.Holds := by
  w_on; o_law
  refine HandSHeadRun.head_any (r := OpenLaw.row PySem.Challenge.rw_bondwords_k01_bonds_made) (q := view (OpenLaw.row PySem.Challenge.rw_bondwords_k01_bonds_made).prog [35]) (H := BW.hk) (ob := BW.ob) (M := 6000) (loose := BW.names) (d := HandSHeadRun.topDef (OpenLaw.row PySem.Challenge.rw_bondwords_k01_bonds_made).prog 35) (kwd := []) BW.ob_eq
    (by kernel_rfl) (fun s => by kernel_rfl) BW.run (by kernel_rfl) (by kernel_rfl) (by kernel_rfl) (by rfl) (by first | assumption | decide +kernel) (by decide +kernel) ⟨rfl, rfl, rfl, rfl, rfl, by decide +kernel⟩ ?hw ?hc
  case hw => w_witness2
  case hc =>
    refine L2G.walkGT (l := PySem.Challenge.rw_bondwords_k01_bonds_made) (n := 63) (k := 8) (x := "script") rfl (by decide) (by kernel_rfl) ⟨rfl, by decide, by decide⟩ ?F
    intro w mz fz hz ⟨K, kin, says⟩ ns0 at0
    have atL : mz ("law" : PySem.Str) = some (.ref fz) := by
      rw [show ("law" : PySem.Str) = (HandSHeadRun.topDef (OpenLaw.row PySem.Challenge.rw_bondwords_k01_bonds_made).prog 35).name from by kernel_rfl]
      exact at0
    obtain ⟨fd, hb, hF⟩ := BW.facts (P := (PySem.Challenge.rw_bondwords_k01_bonds_made).prog) (w := w) kin ns0 atL says
    refine ⟨K, fd, BW.spLaw K (DL.TTof K BW.lamL), BW.tfL.map (He.cT K), kin, fun p hp => ?_, fun p hp => ?_, fun p hp => ?_, hb, fun H a ns hl tb hS => ⟨a, ns, rfl, hS, hl, fun p hp => ?_, fun _ => rfl⟩, fun base b1 b2 b3 => hF base b1 b2 fun n hn => b3 _ (List.mem_map.mpr ⟨n, hn, rfl⟩)⟩
    · obtain ⟨n, hn, rfl⟩ := List.mem_map.mp hp
      exact says.empty _ hn
    · obtain ⟨n, hn, rfl⟩ := List.mem_map.mp hp
      exact says.out _ hn
    · obtain ⟨n, hn, rfl⟩ := List.mem_map.mp hp
      exact PySem.W.codeHd_of_K kin (says.hd _ hn)
    · obtain ⟨x, hx, rfl⟩ := List.mem_map.mp hp
      exact tb _ (List.mem_map.mpr ⟨x.1, (show x.1 ∈ BW.lamL.map (·.1) from List.mem_map.mpr ⟨x, hx, rfl⟩), rfl⟩)

