import PyProof.Rows.All
import Wide.All
import OpenK.AllK
import Wide.FinOn
import HandS.ForMost
import HandS.TupAny
import HandS.TupMul
import HandS.Conv
import HandS.Wide
import HandS.Style
import HandS.HeadHook1
import HandS.Lambda
import HandS.IsInst
import HandS.Zip
import HandS.Dict
import KE.GoesEnum
import OpenK.KOps
import HandS.List
import HandS.Ends
import HandS.HeadEnd
import HandS.More
import HandS.HeadHook3
import HandS.NoneIn
import HandS.Exc
import HandS.ExcOwn
import HandS.CallSlots
import HandS.WordsExc
import KE.KExcInit
import KE.KTryMore
import KE.KExcIs
import HandS.ExcIs
import HandS.ExcField
import HandS.EndTab
import HandS.HeadHook4
import HandS.Star
import HandS.Small
import HandS.Iter
import HandS.OwnEq
import PyProof.InstNe
import HandS.ExcValue
import KE.SortData
import KE.SortKeyHeap
import KE.KSortKey
import HandS.TupSets
import HandS.SetBool
import HandS.RevRange
import HandS.Deep
import PyProof.Rows.TupTab
import HandS.GenList
import HandS.SetFor
import HandS.Strs
import HandS.MakeKwOnly
import HandS.Rev
import KE.KDictDisplayH
import HandS.Text
import PyProof.Rows.Chain
import PySem.Challenge.RW_bondwords_k43_whole_any_shortest_word
import KE.KStateDown
import HandS.Head0
import HandS.Head1
import HandS.Head2
namespace DL
end DL
namespace L2
end L2
namespace PySem
end PySem
section
set_option Elab.async false
set_option linter.all false
set_option maxRecDepth 100000
namespace DL
open PySem L2
open PySem.W (Frag)
def wo (H : Hp) (X : List Addr) : Hp := fun a => if a ∈ X then none else match H a with
  | some (.tbl _) => none
  | o => o
end DL
set_option maxHeartbeats 1000000
set_option maxHeartbeats 1000000
set_option maxHeartbeats 1000000
set_option maxHeartbeats 1000000
set_option autoImplicit false
set_option maxHeartbeats 1000000
set_option maxHeartbeats 2000000
set_option maxHeartbeats 1000000
set_option maxHeartbeats 1000000
set_option maxHeartbeats 1000000
set_option maxHeartbeats 1000000
set_option maxHeartbeats 1000000
set_option maxHeartbeats 1000000
set_option maxHeartbeats 1000000
set_option maxHeartbeats 1000000
set_option maxHeartbeats 1000000
set_option maxHeartbeats 1000000
set_option maxHeartbeats 1000000
set_option maxHeartbeats 1000000
set_option maxHeartbeats 1000000
set_option maxHeartbeats 1000000
set_option maxHeartbeats 1000000
set_option maxHeartbeats 1000000
set_option maxHeartbeats 1000000
set_option maxHeartbeats 1000000
set_option maxHeartbeats 1000000
namespace BW
open PySem L2 DL
open PySem.W (Frag)
def tupIs (K : Frag) (v : Value) (ns : List Int) : Bool := match v with
  | .ref b => (match K.lookup b with
    | some ⟨.type c, _, .seq its _, _⟩ => decide (c = "tuple") && (decide (its.size ≤ sizeLine) && He.relAll (ns.map V.int) its.toList)
    | _ => false)
  | _ => false
def entB (K : Frag) : List DictEntry → List (Int × List Int) → Bool
  | [], [] => true
  | e :: es, (k, ns) :: r => (match e.key with | .int j _ => decide (j = k) && decide (e.hash = hashInt k) | _ => false) && (tupIs K e.val ns && entB K es r)
  | _, _ => false
def kdB (K : Frag) (x : PySem.Str) (kvs : List (Int × List Int)) : Bool := match K.lookup (He.ga K x) with
  | some ⟨.type c, none, .dict es _, sl⟩ => decide (c = "dict") && (sl.isEmpty && (!(He.ga K x == sysModules) && entB K es.toList kvs))
  | _ => false
end BW
set_option maxHeartbeats 1000000
set_option maxHeartbeats 1000000
set_option autoImplicit false
set_option autoImplicit false
set_option maxHeartbeats 1000000
set_option maxHeartbeats 1000000
set_option maxHeartbeats 1000000
set_option maxHeartbeats 1000000
set_option maxHeartbeats 1000000
set_option maxHeartbeats 1000000
set_option maxHeartbeats 1000000
set_option autoImplicit false
set_option maxHeartbeats 1000000
set_option maxHeartbeats 1000000
set_option autoImplicit false
set_option maxHeartbeats 1000000
set_option maxHeartbeats 1000000
set_option maxHeartbeats 1000000
set_option autoImplicit false
set_option maxHeartbeats 1000000
set_option maxHeartbeats 1000000
set_option maxHeartbeats 1000000
set_option maxHeartbeats 1000000
set_option maxHeartbeats 1000000
set_option maxHeartbeats 1000000
set_option maxHeartbeats 1000000
set_option maxHeartbeats 1000000
set_option maxHeartbeats 1000000
set_option maxHeartbeats 1000000
set_option maxHeartbeats 1000000
set_option maxHeartbeats 1000000
set_option maxHeartbeats 1000000
set_option maxHeartbeats 1000000
set_option autoImplicit false
set_option maxHeartbeats 1000000
set_option autoImplicit false
set_option maxHeartbeats 1000000
set_option autoImplicit false
set_option maxHeartbeats 1000000
set_option autoImplicit false
set_option maxHeartbeats 1000000
set_option autoImplicit false
set_option maxHeartbeats 1000000
set_option maxHeartbeats 1000000
set_option maxHeartbeats 1000000
set_option maxHeartbeats 2000000
set_option maxHeartbeats 2000000
set_option maxHeartbeats 2000000
set_option maxHeartbeats 2000000
set_option maxHeartbeats 2000000
set_option maxHeartbeats 1000000
set_option maxHeartbeats 1000000
set_option maxHeartbeats 1000000
set_option maxHeartbeats 1000000
set_option maxHeartbeats 1000000
set_option maxHeartbeats 1000000
set_option maxHeartbeats 1000000
set_option maxHeartbeats 1000000
set_option maxHeartbeats 1000000
set_option maxHeartbeats 1000000
set_option maxHeartbeats 1000000
set_option maxHeartbeats 1000000
set_option maxHeartbeats 1000000
set_option maxHeartbeats 1600000
set_option maxHeartbeats 1600000
set_option maxHeartbeats 1000000
set_option maxHeartbeats 1000000
set_option maxHeartbeats 1000000
set_option maxHeartbeats 1000000
set_option maxHeartbeats 3200000
set_option maxHeartbeats 1000000
set_option maxHeartbeats 1000000
set_option maxHeartbeats 1000000
set_option maxHeartbeats 1000000
set_option maxHeartbeats 1000000
set_option maxHeartbeats 1000000
set_option maxHeartbeats 1000000
set_option maxHeartbeats 1000000
set_option maxHeartbeats 1000000
set_option maxHeartbeats 1000000
set_option maxHeartbeats 1000000
set_option maxHeartbeats 1000000
set_option maxHeartbeats 1000000
set_option maxHeartbeats 1000000
set_option maxHeartbeats 1000000
set_option maxHeartbeats 1000000
set_option maxHeartbeats 1000000
set_option maxHeartbeats 1000000
set_option maxHeartbeats 1000000
set_option maxHeartbeats 1000000
set_option maxHeartbeats 1000000
set_option maxHeartbeats 1000000
set_option maxHeartbeats 1000000
set_option maxHeartbeats 1000000
set_option maxHeartbeats 1000000
set_option maxHeartbeats 1000000
set_option maxHeartbeats 1000000
set_option maxHeartbeats 1000000
set_option maxHeartbeats 1000000
set_option maxHeartbeats 1000000
set_option maxHeartbeats 1000000
set_option maxHeartbeats 1000000
set_option maxHeartbeats 1000000
set_option maxHeartbeats 1000000
set_option maxHeartbeats 1000000
set_option maxHeartbeats 1000000
namespace BW
open PySem L2 DL
def top (i : Nat) : Stmt := PySem.Challenge.pw_bondwords_k43_whole_any_shortest_word.main.body.getD i (.Pass ⟨0, 0, 0, 0⟩)
end BW
namespace BW
open PySem L2 DL
def memS (i j : Nat) : Stmt := match top i with
  | .ClassDef _ _ _ body .. => body.getD j (.Pass ⟨0, 0, 0, 0⟩)
  | _ => .Pass ⟨0, 0, 0, 0⟩
end BW
namespace BW
open PySem L2 DL
abbrev dd (x : PySem.Str) (i : Nat) : He.DefD := ⟨(x, none), x, x, defArgs (top i), defBody (top i), defScope (top i), [], []⟩
abbrev dm (x m q : PySem.Str) (i j : Nat) : He.DefD := ⟨(x, some m), m, q, defArgs (memS i j), defBody (memS i j), defScope (memS i j), [], []⟩
def fn : List He.DefD := [dd "is_whole" 14, dd "is_letter" 15, dd "can_stand" 17, dd "check_shape" 18, dd "check_table" 19, dd "weight_of" 20, dd "weights_from" 21, dd "as_word" 24, dd "is_row" 26, dd "first_row" 27, dd "pressed" 28, dd "row_behind" 29, dd "fallen" 30, dd "way_down" 31, dd "row_of" 32, dd "word_of" 33, dd "lasts" 34, dd "check_led" 37, dd "least_word" 38, dd "least_to_strike" 41, dd "rows_below" 42, dd "kept" 43, dd "is_below" 44, dd "count_below" 45, dd "row_to_spell" 47, dd "shortest_words" 48, dd "_law_mixed" 50, dd "_law_folded" 51, dd "_law_draw" 52, dd "_law_begun" 53, dd "_law_table" 54, dd "_law_weight" 55, dd "_law_pressed" 56, dd "_law_row" 57, dd "_law_back" 58, dd "_law_least" 59, dd "_law_word" 60, dd "_law_under" 61, dd "_law_rows_by" 62, dd "law" 63, dm "Bonds" "__init__" "Bonds.__init__" 22 0, dm "Bonds" "__len__" "Bonds.__len__" 22 1]
def fa : List He.Fa := [.glo "is_whole", .glo "is_letter", .glo "can_stand", .glo "check_shape", .glo "check_table", .glo "weight_of", .glo "weights_from", .glo "as_word", .glo "is_row", .glo "first_row", .glo "pressed", .glo "row_behind", .glo "fallen", .glo "way_down", .glo "row_of", .glo "word_of", .glo "lasts", .glo "check_led", .glo "least_word", .glo "least_to_strike", .glo "rows_below", .glo "kept", .glo "is_below", .glo "count_below", .glo "row_to_spell", .glo "shortest_words", .glo "_law_mixed", .glo "_law_folded", .glo "_law_draw", .glo "_law_begun", .glo "_law_table", .glo "_law_weight", .glo "_law_pressed", .glo "_law_row", .glo "_law_back", .glo "_law_least", .glo "_law_word", .glo "_law_under", .glo "_law_rows_by", .glo "law", .free "isinstance", .free "int", .free "bool", .free "list", .free "tuple", .free "len", .free "range", .free "enumerate", .free "all", .free "zip", .free "sorted", .free "set", .free "reversed", .free "min", .int "MOST_LETTERS" (6), .int "MOST_WORD" (60), .int "OWN_BOND" (1), .int "OWN_WEIGHT" (-2), .int "MOST_LED" (16), .int "MOST_BELOW" (12), .glo "Bonds", .cls "Bonds", .noat "Bonds" "table", .noat "Bonds" "weights", .mkr "Bonds", .meth "Bonds" "__len__", .glo "WEIGHTS", .glo "BondError", .glo "BadBonds", .glo "BadWord", .glo "BadRow", .glo "BadNumber", .glo "TooGreat"]
def wts0 : List (Int × List Int) := [(2, [0, 0]), (3, [1, 1]), (4, [1, 2]), (6, [1, 3]), (0, [2, 2])]
def tabL : List He.Tab := []
abbrev lamL : List ((PySem.Str × Option PySem.Str) × PySem.Str) := []
abbrev tfL : List (PySem.Str × Option PySem.Str) := []
def ndB (K : PySem.W.Frag) : Bool := decide ((lamL.map fun x => (He.cT K x.1).2).Nodup)
def exB (K : PySem.W.Frag) : Bool := kdB K "WEIGHTS" wts0 && (ndB K && ((((((true)))))))
abbrev R : PySem.W.OpenRow := PySem.W.OpenLaw.row PySem.Challenge.rw_bondwords_k43_whole_any_shortest_word
abbrev hk : PySem.W.Hook := He.hookX 4 fa fn tabL tfL exB
def ob (s : PySem.W.SharedT) : He.AlX := He.obsX 4 fa fn tabL tfL exB (HandSHeadRun.getT s)
def names0 : List PySem.Str := ["_wall", "__name__", "BondError", "BadBonds", "BadWord", "BadRow", "BadNumber", "TooGreat", "MOST_LETTERS", "MOST_WORD", "WEIGHTS", "OWN_BOND", "OWN_WEIGHT", "is_whole", "is_letter", "check_letters", "can_stand", "check_shape", "check_table", "weight_of", "weights_from", "Bonds", "as_word", "is_row", "first_row", "pressed", "row_behind", "fallen", "way_down", "row_of"]
def names1 : List PySem.Str := ["word_of", "lasts", "MOST_LED", "check_led", "least_word", "MOST_BELOW", "least_to_strike", "rows_below", "kept", "is_below", "count_below", "row_to_spell", "shortest_words", "_law_mixed", "_law_folded", "_law_draw", "_law_begun", "_law_table", "_law_weight", "_law_pressed", "_law_row", "_law_back", "_law_least", "_law_word", "_law_under", "_law_rows_by"]
abbrev names : List PySem.Str := names0 ++ names1
end BW
set_option maxHeartbeats 0
namespace BW
open PySem PySem.Spec PyProof.Rows L2
abbrev PR (w : World) : Prop := HandSHeadRun.RunEq R (PySem.W.view R.prog [63]) hk ob 6000 names w
theorem run0 (w : World) : PR (w.withFollow "special-get-raises" false) := fun os => by kernel_rfl
theorem run1 (w : World) : PR (w.withFollow "special-get-raises" true) := fun os => by kernel_rfl
end BW
open PySem PySem.W PyProof.Rows
end
set_option Elab.async false
set_option linter.all false
set_option maxRecDepth 100000
namespace DL
open PySem L2
open PySem.W (Frag)
inductive D where
  | non | bl (b : Bool) | int (i : Int) | str (x : PySem.Str)
  | lst (xs : List D) | tup (xs : List D) | dic | ins (C : Addr) (ns : List PySem.Str) (xs : List D)
  | exc (n : PySem.Str) (ns : List PySem.Str) (xs : List D)
def xob (a : Addr) (cls : Value) (dd : Option Addr) : HO := .ext fun h => ∃ oe vs, h.get? a = some oe ∧ (oe.cls = cls ∧ oe.dict = dd) ∧ oe.data = .fields vs
def ExF (H : Hp) (dd : Option Addr) (ns : List PySem.Str) (vs : List V) : Prop := (ns = [] ∧ dd = none) ∨ ∃ d, dd = some d ∧ H d = some (.xd (ns.zip vs))
mutual
inductive Rl (K : Frag) (H : Hp) : V → D → Prop
  | non : Rl K H .non .non
  | bl (b : Bool) : Rl K H (.bl b) (.bl b)
  | int (i : Int) : Rl K H (.int i) (.int i)
  | str (x : PySem.Str) : Rl K H (.str x) (.str x)
  | lst {a : Addr} {vs : List V} {ds : List D} : H a = some (.lst vs) → RlA K H vs ds → Rl K H (.ref a) (.lst ds)
  | tup {a : Addr} {vs : List V} {ds : List D} : SqT K H a vs → RlA K H vs ds → Rl K H (.ref a) (.tup ds)
  | dic {a : Addr} : H a = some (.dK []) → Rl K H (.ref a) .dic
  | ins {a C dx : Addr} {ns : List PySem.Str} {vs : List V} {ds : List D} : H a = some (.ins C dx (ns.zip vs)) → ns.length = vs.length → RlA K H vs ds → Rl K H (.ref a) (.ins C ns ds)
  | exc {a : Addr} {n : PySem.Str} {dd : Option Addr} {ns : List PySem.Str} {vs : List V} {ds : List D} : H a = some (xob a (.ref (He.ga K n)) dd) → ExF H dd ns vs → ns.length = vs.length → RlA K H vs ds → Rl K H (.ref a) (.exc n ns ds)
inductive RlA (K : Frag) (H : Hp) : List V → List D → Prop
  | nil : RlA K H [] []
  | cons {v : V} {vs : List V} {d : D} {ds : List D} : Rl K H v d → RlA K H vs ds → RlA K H (v :: vs) (d :: ds)
end
def Sub (A B : Hp) : Prop := ∀ a o, A a = some o → B a = some o
theorem Sub.refl (A : Hp) : Sub A A := fun _ _ h => h
theorem Sub.trans {A B C : Hp} (x : Sub A B) (y : Sub B C) : Sub A C := fun a o h => y a o (x a o h)
theorem Sub.rd {A B : Hp} (x : Sub A B) {a : Addr} {u : HO} (h : Rd A a u) : Rd B a u := by
  rcases h with h | ⟨o, h⟩
  · exact .inl (x _ _ h)
  · exact .inr ⟨o, x _ _ h⟩
theorem Sub.sl {K : Frag} {A B : Hp} (x : Sub A B) {a : Addr} {vs : List V} (h : SqL K A a vs) : SqL K B a vs := by
  rcases h with h | h
  · exact .inl (x.rd h)
  · exact .inr h
theorem Sub.st {K : Frag} {A B : Hp} (x : Sub A B) {a : Addr} {vs : List V} (h : SqT K A a vs) : SqT K B a vs := by
  rcases h with h | h
  · exact .inl (x.rd h)
  · exact .inr h
theorem ExF.mono {A B : Hp} (x : Sub A B) {dd : Option Addr} {ns : List PySem.Str} {vs : List V} (h : ExF A dd ns vs) : ExF B dd ns vs := h.imp id fun ⟨d, e, q⟩ => ⟨d, e, x _ _ q⟩
mutual
theorem Rl.mono {K : Frag} {A B : Hp} (x : Sub A B) : ∀ {v : V} {d : D}, Rl K A v d → Rl K B v d
  | _, _, .non => .non
  | _, _, .bl b => .bl b
  | _, _, .int i => .int i
  | _, _, .str s => .str s
  | _, _, .lst h r => .lst (x _ _ h) (RlA.mono x r)
  | _, _, .tup h r => .tup (x.st h) (RlA.mono x r)
  | _, _, .dic h => .dic (x _ _ h)
  | _, _, .ins h l r => .ins (x _ _ h) l (RlA.mono x r)
  | _, _, .exc h f l r => .exc (x _ _ h) (f.mono x) l (RlA.mono x r)
theorem RlA.mono {K : Frag} {A B : Hp} (x : Sub A B) : ∀ {vs : List V} {ds : List D}, RlA K A vs ds → RlA K B vs ds
  | _, _, .nil => .nil
  | _, _, .cons h r => .cons (Rl.mono x h) (RlA.mono x r)
end
theorem RlA.len {K : Frag} {A : Hp} : ∀ {vs : List V} {ds : List D}, RlA K A vs ds → vs.length = ds.length
  | _, _, .nil => rfl
  | _, _, .cons _ r => congrArg (· + 1) (RlA.len r)
theorem RlA.get {K : Frag} {A : Hp} : ∀ {vs : List V} {ds : List D} {i : Nat} {v : V}, RlA K A vs ds → vs[i]? = some v → ∃ d, ds[i]? = some d ∧ Rl K A v d
  | _, _, _, _, .nil, e => by simp at e
  | _, _, 0, _, .cons h _, e => by simp at e; subst e; exact ⟨_, rfl, h⟩
  | _, _, i + 1, v, .cons _ r, e => by
    obtain ⟨d, h1, h2⟩ := RlA.get (i := i) (v := v) r (by simpa using e)
    exact ⟨d, by simpa using h1, h2⟩
theorem RlA.getD {K : Frag} {A : Hp} : ∀ {vs : List V} {ds : List D} {i : Nat} {d : D}, RlA K A vs ds → ds[i]? = some d → ∃ v, vs[i]? = some v ∧ Rl K A v d
  | _, _, _, _, .nil, e => by simp at e
  | _, _, 0, _, .cons h _, e => by simp at e; subst e; exact ⟨_, rfl, h⟩
  | _, _, i + 1, d, .cons _ r, e => by
    obtain ⟨v, h1, h2⟩ := RlA.getD (i := i) (d := d) r (by simpa using e)
    exact ⟨v, by simpa using h1, h2⟩
theorem RlA.app {K : Frag} {A : Hp} : ∀ {vs us : List V} {ds es : List D}, RlA K A vs ds → RlA K A us es → RlA K A (vs ++ us) (ds ++ es)
  | _, _, _, _, .nil, s => s
  | _, _, _, _, .cons h r, s => .cons h (RlA.app r s)
theorem RlA.take {K : Frag} {A : Hp} : ∀ {vs : List V} {ds : List D} (n : Nat), RlA K A vs ds → RlA K A (vs.take n) (ds.take n)
  | _, _, 0, _ => .nil
  | _, _, _ + 1, .nil => .nil
  | _, _, n + 1, .cons h r => .cons h (RlA.take n r)
theorem RlA.drop {K : Frag} {A : Hp} : ∀ {vs : List V} {ds : List D} (n : Nat), RlA K A vs ds → RlA K A (vs.drop n) (ds.drop n)
  | _, _, 0, r => r
  | _, _, _ + 1, .nil => .nil
  | _, _, n + 1, .cons _ r => RlA.drop n r
theorem RlA.set {K : Frag} {A : Hp} {v : V} {d : D} (h : Rl K A v d) : ∀ {vs : List V} {ds : List D} (i : Nat), RlA K A vs ds → RlA K A (vs.set i v) (ds.set i d)
  | _, _, _, .nil => .nil
  | _, _, 0, .cons _ r => .cons h r
  | _, _, i + 1, .cons q r => .cons q (RlA.set h i r)
theorem RlA.rev {K : Frag} {A : Hp} : ∀ {vs : List V} {ds : List D}, RlA K A vs ds → RlA K A vs.reverse ds.reverse
  | _, _, .nil => .nil
  | _, _, .cons h r => by
    rw [List.reverse_cons, List.reverse_cons]
    exact (RlA.rev r).app (.cons h .nil)
theorem RlA.ints {K : Frag} {A : Hp} : ∀ (ns : List Int), RlA K A (ns.map V.int) (ns.map D.int)
  | [] => .nil
  | n :: r => .cons (.int n) (RlA.ints r)
theorem RlA.ints_v {K : Frag} {A : Hp} : ∀ {ns : List Int} {vs : List V}, RlA K A vs (ns.map D.int) → vs = ns.map V.int
  | [], _, .nil => rfl
  | n :: r, _, .cons h q => by
    cases h
    rw [RlA.ints_v q]
    rfl
def NoTb (o : HO) : Prop := ∀ ps, o ≠ .tbl ps
theorem wo_all {H : Hp} {X : List Addr} {a : Addr} {o : HO} (h : wo H X a = some o) : a ∉ X ∧ H a = some o ∧ NoTb o := by
  unfold wo at h
  split at h
  · cases h
  · refine ⟨by assumption, ?_⟩
    split at h
    · cases h
    · rename_i n
      refine ⟨h, fun ps e => ?_⟩
      subst e
      exact n _ h
theorem wo_sub (H : Hp) (X : List Addr) : Sub (wo H X) H := fun a o h => (wo_all h).2.1
theorem wo_ne {H : Hp} {X : List Addr} {a : Addr} {o : HO} (h : wo H X a = some o) : a ∉ X ∧ H a = some o := ⟨(wo_all h).1, (wo_all h).2.1⟩
theorem wo_tb {H : Hp} {X : List Addr} {a : Addr} {o : HO} (h : wo H X a = some o) : NoTb o := (wo_all h).2.2
theorem wo_of {H : Hp} {X : List Addr} {a : Addr} {o : HO} (hx : a ∉ X) (h : H a = some o) (ht : NoTb o := by first | (intro _ z; cases z; done) | exact wo_tb (by assumption)) : wo H X a = some o := by
  unfold wo
  rw [if_neg hx, h]
  cases o <;> first | rfl | exact absurd rfl (ht _)
structure TbK (A B : Hp) : Prop where
  tabs : ∀ T, LamX.Tabs T A → LamX.Tabs T B
  tbl : ∀ p ps, A p = some (.tbl ps) → ∃ qs, B p = some (.tbl qs)
  tup : ∀ a vs, Rd A a (.tup vs) → Rd B a (.tup vs)
theorem TbK.refl {A : Hp} : TbK A A := ⟨fun _ h => h, fun _ _ h => ⟨_, h⟩, fun _ _ h => h⟩
theorem TbK.st {K : Frag} {A B : Hp} (x : TbK A B) {a : Addr} {vs : List V} (h : SqT K A a vs) : SqT K B a vs := h.imp (x.tup a vs) id
theorem TbK.trans {A B C : Hp} (x : TbK A B) (y : TbK B C) : TbK A C := ⟨fun T h => y.tabs T (x.tabs T h), fun p ps h => by
  obtain ⟨qs, e⟩ := x.tbl p ps h
  exact y.tbl p qs e, fun a vs h => y.tup a vs (x.tup a vs h)⟩
def Firm (a : Addr) (o : HO) : Prop := (∃ ps, o = .tbl ps) ∨ (∃ q, o = LamX.CodeO a q) ∨ (∃ vs, o = .tup vs) ∨ ∃ ob vs, o = .frz ob (.tup vs)
theorem TbK.of {A B : Hp} (h : ∀ a o, A a = some o → Firm a o → B a = some o) : TbK A B := ⟨fun T t p hp => by
  obtain ⟨ps, h1, h2, h3⟩ := t p hp
  refine ⟨ps, h _ _ h1 (.inl ⟨_, rfl⟩), h2, fun pos cv hc => ?_⟩
  obtain ⟨c, e1, e2⟩ := h3 pos cv hc
  exact ⟨c, e1, h _ _ e2 (.inr (.inl ⟨_, rfl⟩))⟩, fun p ps e => ⟨ps, h _ _ e (.inl ⟨_, rfl⟩)⟩, fun a vs e => by
  rcases e with e | ⟨o, e⟩
  · exact .inl (h _ _ e (.inr (.inr (.inl ⟨_, rfl⟩))))
  · exact .inr ⟨o, h _ _ e (.inr (.inr (.inr ⟨_, _, rfl⟩)))⟩⟩
theorem TbK.upd {H : Hp} {p : Addr} {o : HO} (h : ∀ u, H p = some u → ¬ Firm p u) : TbK H (upd H p o) := .of fun a u e k => by
  by_cases z : a = p
  · subst z; exact absurd k (h u e)
  · rw [upd_ne z]; exact e
theorem TbK.new {H : Hp} {p : Addr} {o : HO} (h : H p = none) : TbK H (L2.upd H p o) := .upd fun u e => by rw [h] at e; cases e
theorem TbK.at_ {H : Hp} {p : Addr} {o u : HO} (h : H p = some u) (h1 : NoTb u := by intro _ z; cases z) (h2 : ∀ q, u ≠ LamX.CodeO p q := by intro _ z; cases z) (h3 : ∀ vs, u ≠ .tup vs := by intro _ z; cases z) (h4 : ∀ ob vs, u ≠ .frz ob (.tup vs) := by intro _ _ z; cases z) : TbK H (L2.upd H p o) := .upd fun v e => by
  rw [h] at e; cases e
  rintro (⟨ps, z⟩ | ⟨q, z⟩ | ⟨vs, z⟩ | ⟨ob, vs, z⟩)
  · exact h1 _ z
  · exact h2 _ z
  · exact h3 _ z
  · exact h4 _ _ z
theorem wo_more {H : Hp} {X Y : List Addr} (h : ∀ a ∈ X, a ∈ Y) : Sub (wo H Y) (wo H X) := fun a o e => by
  obtain ⟨n, e⟩ := wo_ne e
  exact wo_of (fun z => n (h a z)) e
theorem wo_new {H : Hp} {X : List Addr} {p : Addr} {o : HO} (hp : H p = none) : Sub (wo H X) (wo (upd H p o) X) := fun a u e => by
  obtain ⟨n, e⟩ := wo_ne e
  exact wo_of n (by rw [upd_ne (ne_of_none e hp)]; exact e)
theorem wo_mut {H : Hp} {X : List Addr} {p : Addr} {o : HO} (hp : p ∈ X) : Sub (wo H X) (wo (upd H p o) X) := fun a u e => by
  obtain ⟨n, e⟩ := wo_ne e
  exact wo_of n (by rw [upd_ne (fun z => n (by rw [z]; exact hp))]; exact e)
structure Kn where
  K : Frag
  N : List Int → Int
  Z : List (List Int)
structure Mc where
  (pm pc pg : Addr)
  T : List (Addr × PySem.Str)
  kd : Option Kn := none
def Ml : Option Mc → List Addr
  | none => []
  | some m => [m.pm, m.pc, m.pg]
structure MOk (m : Mc) (H : Hp) (cs gs : List Int) (n : Nat) : Prop where
  hm : H m.pm = some (.dK [(Sum.inr "cells", .ref m.pc), (Sum.inr "great", .ref m.pg), (Sum.inr "spot", .int n)])
  hc : H m.pc = some (.lst (cs.map V.int))
  hg : H m.pg = some (.lst (gs.map V.int))
  lc : cs.length = 64
  bc : ∀ x ∈ cs, 0 ≤ x ∧ x < 2147483647
  lg : gs.length ≤ 63
  bg : ∀ x ∈ gs, 0 ≤ x
def hashT (r : List Int) : Int := reduceHash (Builtin.Tuple.tupleHashOf (r.map hashInt))
def DiE (p : Addr) (L : List (Addr × List Int × Int)) (h : Heap) : Prop := ∃ o es ep, h.get? p = some o ∧ o.ExactDict ∧ o.data = .dict es ep ∧ (p == sysModules) = false ∧ ∃ us : List Value, us.length = L.length ∧ (∀ (i : Nat) (x : Addr × List Int × Int) (u : Value), L[i]? = some x → us[i]? = some u → ∃ t, u = .int x.2.2 t) ∧
  es.toList = (L.zip us).map (fun y => (⟨hashT y.1.2.1, .ref y.1.1, y.2⟩ : DictEntry)) ∧ (L.map (·.2.1)).Nodup
structure KOk (m : Mc) (kn : Kn) (H : Hp) (L : List (Addr × List Int × Int)) : Prop where
  hp : H m.pm = some (.ext (DiE m.pm L))
  pc : m.pc = m.pm
  pg : m.pg = m.pm
  keys : ∀ x ∈ L, SqT kn.K H x.1 (x.2.1.map V.int)
  val : ∀ x ∈ L, x.2.2 = kn.N x.2.1
  z : ∀ x ∈ L, x.2.1 ∈ kn.Z
  nd : (L.map (·.2.1)).Nodup
  lz : kn.Z.length ≤ 100000
  tb : LamX.Tabs m.T H
def MAt (m : Option Mc) (H : Hp) (k : Nat) : Prop := match m with
  | none => True
  | some m => match m.kd with
    | none => ∃ cs gs n, MOk m H cs gs n ∧ n ≤ k ∧ LamX.Tabs m.T H
    | some kn => ∃ L, KOk m kn H L
theorem MAt.dr {m : Mc} {H : Hp} {k : Nat} (hk : m.kd = none) (h : MAt (some m) H k) : ∃ cs gs n, MOk m H cs gs n ∧ n ≤ k ∧ LamX.Tabs m.T H := by
  unfold MAt at h
  dsimp only at h
  rw [hk] at h
  exact h
theorem MAt.of {m : Mc} {H : Hp} {k : Nat} (hk : m.kd = none) (h : ∃ cs gs n, MOk m H cs gs n ∧ n ≤ k ∧ LamX.Tabs m.T H) : MAt (some m) H k := by
  unfold MAt
  dsimp only
  rw [hk]
  exact h
theorem MAt.kn {m : Mc} {kn : Kn} {H : Hp} {k : Nat} (hk : m.kd = some kn) (h : MAt (some m) H k) : ∃ L, KOk m kn H L := by
  unfold MAt at h
  dsimp only at h
  rw [hk] at h
  exact h
theorem MAt.ofK {m : Mc} {kn : Kn} {H : Hp} {k : Nat} (hk : m.kd = some kn) (h : ∃ L, KOk m kn H L) : MAt (some m) H k := by
  unfold MAt
  dsimp only
  rw [hk]
  exact h
theorem MAt.tabs {m : Mc} {H : Hp} {k : Nat} (h : MAt (some m) H k) : LamX.Tabs m.T H := by
  cases e : m.kd with
  | none =>
    obtain ⟨_, _, _, _, _, q⟩ := h.dr e
    exact q
  | some kn =>
    obtain ⟨_, o⟩ := h.kn e
    exact o.tb
theorem MAt.mono {m : Option Mc} {H : Hp} {j k : Nat} (h : MAt m H j) (l : j ≤ k) : MAt m H k := by
  cases m with
  | none => trivial
  | some m =>
    cases e : m.kd with
    | none =>
      obtain ⟨cs, gs, n, o, q⟩ := h.dr e
      exact .of e ⟨cs, gs, n, o, Nat.le_trans q.1 l, q.2⟩
    | some kn => exact .ofK e (h.kn e)
theorem MAt.eq {m : Option Mc} {H H' : Hp} {k : Nat} (h : MAt m H k) (e : ∀ a ∈ Ml m, H a ≠ none → H' a = H a) (t : TbK H H') : MAt m H' k := by
  cases m with
  | none => trivial
  | some m =>
    cases ek : m.kd with
    | none =>
      obtain ⟨cs, gs, n, o, q⟩ := h.dr ek
      have e1 := e m.pm (by simp [Ml]) (by rw [o.hm]; simp)
      have e2 := e m.pc (by simp [Ml]) (by rw [o.hc]; simp)
      have e3 := e m.pg (by simp [Ml]) (by rw [o.hg]; simp)
      exact .of ek ⟨cs, gs, n, ⟨e1.trans o.hm, e2.trans o.hc, e3.trans o.hg, o.lc, o.bc, o.lg, o.bg⟩, q.1, t.tabs _ q.2⟩
    | some kn =>
      obtain ⟨L, o⟩ := h.kn ek
      have e1 := e m.pm (by simp [Ml]) (by rw [o.hp]; simp)
      exact .ofK ek ⟨L, e1.trans o.hp, o.pc, o.pg, fun x hx => t.st (o.keys x hx), o.val, o.z, o.nd, o.lz, t.tabs _ o.tb⟩
theorem MAt.there {m : Option Mc} {H : Hp} {k : Nat} (h : MAt m H k) : ∀ a ∈ Ml m, H a ≠ none := by
  cases m with
  | none => intro a ha; simp [Ml] at ha
  | some m =>
    cases ek : m.kd with
    | none =>
      obtain ⟨cs, gs, n, o, q⟩ := h.dr ek
      intro a ha
      simp [Ml] at ha
      rcases ha with rfl | rfl | rfl
      · rw [o.hm]; simp
      · rw [o.hc]; simp
      · rw [o.hg]; simp
    | some kn =>
      obtain ⟨L, o⟩ := h.kn ek
      intro a ha
      simp [Ml] at ha
      have : a = m.pm := by
        rcases ha with rfl | rfl | rfl
        · rfl
        · exact o.pc
        · exact o.pg
      rw [this, o.hp]; simp
inductive Sl where
  | no | dat (d : D) | own (p : Addr) (ds : List D) | mst | scr (ns : List Int) | kds (N : List Int → Int) (Z : List (List Int))
structure S where
  X : List Addr
  sl : List Sl
  k : Nat
structure C where
  K : Frag
  M : Option Mc
  X0 : List Addr
  H0 : Hp
  ow : List Nat := []
abbrev C.hid (c : C) (X : List Addr) (H : Hp) : Hp := wo H (Ml c.M ++ X)
def SlOk (c : C) (X : List Addr) (H : Hp) (x : Option (Option V)) : Sl → Prop
  | .no => True
  | .dat d => ∃ v, x = some (some v) ∧ Rl c.K (c.hid X H) v d
  | .own p ds => x = some (some (.ref p)) ∧ p ∈ X ∧ p ∉ c.X0 ∧ c.H0 p = none ∧ ∃ vs, H p = some (.lst vs) ∧ RlA c.K (c.hid X H) vs ds
  | .mst => ∃ m, (c.M = some m ∧ m.kd = none) ∧ x = some (some (.ref m.pm))
  | .kds N Z => ∃ m, (c.M = some m ∧ m.kd = some ⟨c.K, N, Z⟩) ∧ x = some (some (.ref m.pm))
  | .scr ns => ∃ a, x = some (some (.ref a)) ∧ SqL c.K (c.hid X H) a (ns.map V.int)
structure Rep (c : C) (s : S) (σ : L2.St) (H : Hp) : Prop where
  sub : Sub (c.hid c.X0 c.H0) (c.hid s.X H)
  old : ∀ a ∈ c.X0, a ∉ Ml c.M → c.H0 a ≠ none → H a = c.H0 a
  x0 : ∀ a ∈ c.X0, a ∈ s.X
  xm : ∀ a ∈ s.X, a ∉ Ml c.M
  xs : ∀ a ∈ s.X, H a ≠ none
  m : MAt c.M H s.k
  slot : ∀ (i : Nat) (x : Sl), s.sl[i]? = some x → SlOk c s.X H σ[i]? x
  apart : ∀ (i j : Nat) (p q : Addr) (ds es : List D), s.sl[i]? = some (.own p ds) → s.sl[j]? = some (.own q es) → i ≠ j → p ≠ q
  len : s.sl.length = σ.length
  tb : TbK c.H0 H
  xt : ∀ a ∈ s.X, ∀ ps, H a ≠ some (.tbl ps)
def Adv (c : C) (s : S) (H : Hp) (s' : S) (H' : Hp) : Prop := Sub (c.hid s.X H) (c.hid s'.X H')
theorem Adv.refl {c : C} {s : S} {H : Hp} : Adv c s H s H := Sub.refl _
abbrev S.at (s : S) (k : Nat) : S := { s with k := k }
theorem Rep.more {c : C} {s : S} {σ : L2.St} {H : Hp} {k : Nat} (r : Rep c s σ H) (h : s.k ≤ k) : Rep c (s.at k) σ H := ⟨r.sub, r.old, r.x0, r.xm, r.xs, r.m.mono h, r.slot, r.apart, r.len, r.tb, r.xt⟩
theorem Rep.step {c : C} {s : S} {σ : L2.St} {H H' : Hp} {k : Nat} (r : Rep c s σ H) (a : Sub (c.hid s.X H) (c.hid s.X H')) (x : ∀ a ∈ s.X, H a ≠ none → H' a = H a) (m : MAt c.M H' k) (tb : TbK c.H0 H') : Rep c (s.at k) σ H' := by
  refine ⟨r.sub.trans a, fun b hb hm hn => ?_, r.x0, r.xm, fun b hb => ?_, m, fun i y e => ?_, r.apart, r.len, tb, fun b hb => by rw [x b hb (r.xs b hb)]; exact r.xt b hb⟩
  · rw [x b (r.x0 b hb) (r.xs b (r.x0 b hb)), r.old b hb hm hn]
  · rw [x b hb (r.xs b hb)]; exact r.xs b hb
  · have q := r.slot i y e
    cases y with
    | no => trivial
    | dat d =>
      obtain ⟨v, e, h⟩ := q
      exact ⟨v, e, h.mono a⟩
    | own p ds =>
      obtain ⟨e, h1, h2, h3, vs, h4, h5⟩ := q
      exact ⟨e, h1, h2, h3, vs, by rw [x p h1 (r.xs p h1)]; exact h4, h5.mono a⟩
    | mst => exact q
    | kds N Z => exact q
    | scr ns =>
      obtain ⟨v, e, h⟩ := q
      exact ⟨v, e, a.sl h⟩
structure AdvE (c : C) (X : List Addr) (H H' : Hp) : Prop where
  sub : Sub (c.hid X H) (c.hid X H')
  own : ∀ a ∈ X, H' a = H a
theorem AdvE.refl {c : C} {X : List Addr} {H : Hp} : AdvE c X H H := ⟨Sub.refl _, fun _ _ => rfl⟩
theorem AdvE.trans {c : C} {X : List Addr} {H H1 H2 : Hp} (a : AdvE c X H H1) (b : AdvE c X H1 H2) : AdvE c X H H2 := ⟨a.sub.trans b.sub, fun x h => (b.own x h).trans (a.own x h)⟩
theorem Rep.new {c : C} {s : S} {σ : L2.St} {H : Hp} {p : Addr} {o : HO} (r : Rep c s σ H) (hp : H p = none) : Rep c s σ (upd H p o) ∧ AdvE c s.X H (upd H p o) := by
  have a : Sub (c.hid s.X H) (c.hid s.X (upd H p o)) := wo_new hp
  have e : ∀ b, H b ≠ none → upd H p o b = H b := fun b h => upd_ne fun z => h (z ▸ hp)
  exact ⟨r.step (k := s.k) a (fun b _ h => e b h) (r.m.eq (fun b hb h => e b h) (.new hp)) (r.tb.trans (.new hp)), a, fun b hb => e b (r.xs b hb)⟩
theorem Rep.free {c : C} {s : S} {σ : L2.St} {H : Hp} {p : Addr} (r : Rep c s σ H) (hp : H p = none) : p ∉ Ml c.M ++ s.X := fun z => by
  rcases List.mem_append.mp z with z | z
  · exact r.m.there p z hp
  · exact r.xs p z hp
theorem Rep.at_new {c : C} {s : S} {σ : L2.St} {H : Hp} {p : Addr} {o : HO} (r : Rep c s σ H) (hp : H p = none) (ht : NoTb o := by intro _ z; cases z) : (c.hid s.X (upd H p o)) p = some o := wo_of (r.free hp) upd_same ht
end DL
namespace DL
open PySem L2
theorem tup_once (l : Addr) (its : Array Value) (n : Nat) (dd : Option Addr) (sl : Array (Option Value)) (u : Tok) :
    Meets (Builtin.«tuple.__mul__» ⟨[.ref l, .int 1 u], []⟩) (fun _ R s => s.heap.get? l = some { cls := .type "tuple", dict := dd, data := .seq its n, slots := sl } ∧ R (.ok (.ret (Value.ref l))) s) := by
  refine .of_wp fun P' w' A' R s' hh => ?_
  obtain ⟨hp, gg, dd', tt, oo⟩ := s'
  obtain ⟨hl, hR⟩ := hh
  have f1 := AutoSeq1.idx_int
  have c1 : (its.isEmpty || (1 : Int) == 1) = true := by rw [show ((1 : Int) == 1) = true from rfl, Bool.or_true]
  wp_walk using AutoSeq1.wpAny_loadPart' hl
  exact ⟨_, rfl, hR⟩
section
variable {X : Cx}
theorem op_rep1 : OpR X (binaryOp .Mult) (fun x y H Q => ∃ l xs, x = .ref l ∧ y = .int 1 ∧ SqT X.K H l xs ∧ Q (.ref l) H) := by
  intro pins s σ H x y v u Q I rx ry h
  obtain ⟨l, xs, rfl, rfl, hT, q⟩ := h
  cases rx
  obtain ⟨t, rfl⟩ := ry
  obtain ⟨its, r, ⟨⟨cls, dd, data, sl⟩, ho, hc, n, hd⟩, hs⟩ := I.tuple hT
  simp only at hc hd
  subst hc hd
  refine wpAny_binaryOp_repeat_ref (T := "tuple") (U := "int") (by decide) ⟨_, ho, rfl⟩ (fun s' => typeIs_int s' 1 t) noFill_tuple_mul F.fills_int_mul F.slot_int_rmul repeat_tuple F.slot_int_index.lookup ?_
  refine PySem.call_meets F.slot_int_rmul (typeIs_int s 1 t) F.entry_int_rmul (F.args_int_rmul_2 _ _) (int_rmul_tuple 1 t l its.toArray n dd sl) ⟨ho, rfl, ⟨_, ho, rfl⟩, ?_⟩
  refine PySem.call_meets F.slot_tuple_mul ⟨_, ho, rfl⟩ F.entry_tuple_mul (F.args_tuple_mul_2 _ _) (tup_once l its.toArray n dd sl t) ⟨ho, ?_⟩
  exact ⟨.ref l, H, I, rfl, q⟩
end
end DL
namespace L2
open PySem
section
variable {X : Cx}
theorem PE.weak {e : Expr} {t t' : TE} (h : PE X e t) (w : ∀ σ H Q, t' σ H Q → t σ H Q) : PE X e t' := ⟨fun p s σ H Q I q => h.run p s σ H Q I (w _ _ _ q)⟩
theorem PT.weak {e : Expr} {t t' : TT} (h : PT X e t) (w : ∀ σ H Q, t' σ H Q → t σ H Q) : PT X e t' := ⟨fun p s σ H Q I q => h.run p s σ H Q I (w _ _ _ q)⟩
theorem PW.weak {e : Expr} {t t' : TT} (h : PW X e t) (w : ∀ σ H Q, t' σ H Q → t σ H Q) : PW X e t' := ⟨fun x p s σ H Q I q => h.run x p s σ H Q I (w _ _ _ q)⟩
theorem PA.weak {e : List Expr} {t t' : TA} (h : PA X e t) (w : ∀ σ H Q, t' σ H Q → t σ H Q) : PA X e t' := ⟨fun x p s σ H Q I q => h.run x p s σ H Q I (w _ _ _ q)⟩
theorem PS.weak {e : Stmt} {t t' : TS} (h : PS X e t) (w : ∀ D σ H, t' D σ H → t D σ H) : PS X e t' := ⟨fun p s σ H D I q => h.run p s σ H D I (w _ _ _ q)⟩
theorem PSs.weak {e : List Stmt} {t t' : TS} (h : PSs X e t) (w : ∀ D σ H, t' D σ H → t D σ H) : PSs X e t' := ⟨fun p s σ H D I q => h.run p s σ H D I (w _ _ _ q)⟩
end
end L2
namespace DL
open PySem L2
open PySem.W (Frag)
abbrev DE := S → (D → Nat → Prop) → Prop
abbrev DT := S → (Bool → Nat → Prop) → Prop
abbrev DA := S → (List D → Nat → Prop) → Prop
def LE (c : C) (t : DE) : TE := fun σ H Q => ∃ s R, Rep c s σ H ∧ t s R ∧ ∀ d k, R d k → ∀ v H', Rep c (s.at k) σ H' → AdvE c s.X H H' → Rl c.K (c.hid s.X H') v d → Q v H'
def LT (c : C) (t : DT) : TT := fun σ H Q => ∃ s R, Rep c s σ H ∧ t s R ∧ ∀ b k, R b k → ∀ H', Rep c (s.at k) σ H' → AdvE c s.X H H' → Q b H'
def LA (c : C) (t : DA) : TA := fun σ H Q => ∃ s R, Rep c s σ H ∧ t s R ∧ ∀ ds k, R ds k → ∀ vs H', Rep c (s.at k) σ H' → AdvE c s.X H H' → RlA c.K (c.hid s.X H') vs ds → Q vs H'
abbrev dVar (i : Nat) : DE := fun s Q => ∃ d, s.sl[i]? = some (.dat d) ∧ Q d s.k
abbrev dC (d : D) : DE := fun s Q => Q d s.k
section
variable {X : Cx} {c : C}
theorem pd_var (i : Nat) {x : PySem.Str} {pos : Pos} (hN : X.N[i]? = some x := by rfl) (hv : Vis X.env.scope x := by first | exact Or.inl rfl | exact Or.inr (Or.inl rfl) | exact Or.inr (Or.inr rfl)) (hd : (x == ("__debug__" : PySem.Str)) = false := by decide)
    (hcd : (x == ("__classdict__" : PySem.Str)) = false := by decide) : PE X (.Name x pos) (LE c (dVar i)) := by
  refine (pe_var hN hv hd hcd).weak fun σ H Q ⟨s, R, r, ⟨d, e, q⟩, f⟩ => ?_
  obtain ⟨v, e1, h⟩ := r.slot i _ e
  exact ⟨v, e1, f _ _ q v H r AdvE.refl h⟩
theorem LE.const {v : V} {d : D} (h : ∀ H, Rl c.K H v d) (σ : L2.St) (H : Hp) (Q : VK) (x : LE c (dC d) σ H Q) : Q v H := by
  obtain ⟨s, R, r, q, f⟩ := x
  exact f _ _ q v H r AdvE.refl (h _)
theorem pd_int {i j pos} : PE X (.Constant (.int i) j pos) (LE c (dC (.int i))) := pe_int.weak fun σ H Q h => LE.const (fun _ => .int i) σ H Q h
theorem pd_bl {b j pos} : PE X (.Constant (.bool b) j pos) (LE c (dC (.bl b))) := pe_bl.weak fun σ H Q h => LE.const (fun _ => .bl b) σ H Q h
theorem pd_non {j pos} : PE X (.Constant .none j pos) (LE c (dC .non)) := pe_non.weak fun σ H Q h => LE.const (fun _ => .non) σ H Q h
theorem pd_globI {x : PySem.Str} {pos : Pos} {i : Int} {t : Tok} (hm : X.mg x = some (.int i t)) (hg : Gl X x := by rfl) (hd : (x == ("__debug__" : PySem.Str)) = false := by decide) : PE X (.Name x pos) (LE c (dC (.int i))) :=
  (pe_glob (v := .int i) hg hm ⟨t, rfl⟩ hd).weak fun σ H Q h => LE.const (fun _ => .int i) σ H Q h
end
abbrev O2 := D → D → (D → Prop) → Prop
abbrev O1 := D → (D → Prop) → Prop
def Wi (c : C) (s : S) (σ : L2.St) (H : Hp) (R : D → Prop) (Q : VK) : Prop := ∀ d, R d → ∀ v H', Rep c s σ H' → AdvE c s.X H H' → Rl c.K (c.hid s.X H') v d → Q v H'
def Fit2 (c : C) (r : R2) (o : O2) : Prop := ∀ (s : S) (σ : L2.St) (H : Hp) (x y : V) (a b : D) (R : D → Prop) (Q : VK), Rep c s σ H → Rl c.K (c.hid s.X H) x a → Rl c.K (c.hid s.X H) y b → o a b R → Wi c s σ H R Q → r x y H Q
abbrev dOp (o : O2) (a b : DE) : DE := fun s Q => a s fun x k => b (s.at k) fun y k' => o x y fun z => Q z k'
theorem LE.op {c : C} {r : R2} {o : O2} {a b : DE} (f : Fit2 c r o) (σ : L2.St) (H : Hp) (Q : VK) (h : LE c (dOp o a b) σ H Q) : tOp r (LE c a) (LE c b) σ H Q := by
  obtain ⟨s, R, rp, h, fin⟩ := h
  refine ⟨s, _, rp, h, fun x k h1 v H1 r1 a1 e1 => ?_⟩
  refine ⟨s.at k, _, r1, h1, fun y k2 h2 u H2 r2 a2 e2 => ?_⟩
  exact f (s.at k2) σ H2 v u x y _ Q r2 (e1.mono a2.sub) e2 h2 fun z hz w H3 r3 a3 e3 => fin z k2 hz w H3 r3 ((a1.trans a2).trans a3) e3
theorem Wi.same {c : C} {s : S} {σ : L2.St} {H : Hp} {R : D → Prop} {Q : VK} (w : Wi c s σ H R Q) (rp : Rep c s σ H) {d : D} {v : V} (h : R d) (e : Rl c.K (c.hid s.X H) v d) : Q v H := w d h v H rp AdvE.refl e
theorem Wi.lst {c : C} {s : S} {σ : L2.St} {H : Hp} {R : D → Prop} {Q : VK} (w : Wi c s σ H R Q) (rp : Rep c s σ H) {ds : List D} {vs : List V} (h : R (.lst ds)) (e : RlA c.K (c.hid s.X H) vs ds) : ∀ p, H p = none → Q (.ref p) (upd H p (.lst vs)) := fun p hp =>
  have n := rp.new (o := .lst vs) hp
  w _ h _ _ n.1 n.2 (.lst (rp.at_new hp) (e.mono n.2.sub))
theorem Wi.tup {c : C} {s : S} {σ : L2.St} {H : Hp} {R : D → Prop} {Q : VK} (w : Wi c s σ H R Q) (rp : Rep c s σ H) {ds : List D} {vs : List V} (h : R (.tup ds)) (e : RlA c.K (c.hid s.X H) vs ds) : ∀ p, H p = none → Q (.ref p) (upd H p (.tup vs)) := fun p hp =>
  have n := rp.new (o := .tup vs) hp
  w _ h _ _ n.1 n.2 (.tup (SqT.of (rp.at_new hp)) (e.mono n.2.sub))
theorem Rl.all {c : C} {s : S} {H : Hp} {v : V} {d : D} (h : Rl c.K (c.hid s.X H) v d) : Rl c.K H v d := h.mono (wo_sub _ _)
def lim : Nat := 1000000
theorem lim_le {n : Nat} (h : n ≤ lim) : n ≤ sizeLine := Nat.le_trans h (by decide)
theorem lim_lt {n : Nat} (h : n ≤ lim) : n < sizeLine := Nat.lt_of_le_of_lt h (by decide)
abbrev oAdd : O2 := fun x y Q => match x, y with
  | .int i, .int j => Q (.int (i + j))
  | .lst a, .lst b => a.length + b.length ≤ lim ∧ Q (.lst (a ++ b))
  | .tup a, .tup b => a.length + b.length ≤ lim ∧ Q (.tup (a ++ b))
  | _, _ => False
abbrev oSub : O2 := fun x y Q => match x, y with
  | .int i, .int j => Q (.int (i - j))
  | _, _ => False
abbrev oMul : O2 := fun x y Q => match x, y with
  | .int i, .int j => CMul i j ∧ Q (.int (i * j))
  | .lst a, .int k => 0 ≤ k ∧ k ≤ 1000 ∧ a.length * k.toNat ≤ lim ∧ Q (.lst (List.replicate k.toNat a).flatten)
  | .tup a, .int k => a ≠ [] ∧ 1 ≤ k ∧ k ≤ 1000 ∧ a.length ≤ 1000 ∧ Q (.tup (List.replicate k.toNat a).flatten)
  | _, _ => False
abbrev oDiv : O2 := fun x y Q => match x, y with
  | .int i, .int j => CDivW i j ∧ Q (.int (i / j))
  | _, _ => False
abbrev oMod : O2 := fun x y Q => match x, y with
  | .int i, .int j => 0 < j ∧ Q (.int (i % j))
  | _, _ => False
abbrev oPow : O2 := fun x y Q => match x, y with
  | .int i, .int j => CPow i j ∧ Q (.int (i ^ j.toNat))
  | _, _ => False
abbrev oLt : O2 := fun x y Q => match x, y with | .int i, .int j => Q (.bl (decide (i < j))) | _, _ => False
abbrev oLe : O2 := fun x y Q => match x, y with | .int i, .int j => Q (.bl (decide (i ≤ j))) | _, _ => False
abbrev oGt : O2 := fun x y Q => match x, y with | .int i, .int j => Q (.bl (decide (j < i))) | _, _ => False
abbrev oGe : O2 := fun x y Q => match x, y with | .int i, .int j => Q (.bl (decide (j ≤ i))) | _, _ => False
abbrev oIs : O2 := fun x y Q => match x, y with
  | .non, .non => Q (.bl true)
  | .bl a, .bl b => Q (.bl (decide (a = b)))
  | _, .non => Q (.bl false)
  | _, _ => False
abbrev oNot (o : O2) : O2 := fun x y Q => o x y fun z => match z with | .bl b => Q (.bl (!b)) | _ => False
theorem Rl.lstE {K : Frag} {H : Hp} {v : V} {ds : List D} (h : Rl K H v (.lst ds)) : ∃ a vs, v = .ref a ∧ H a = some (.lst vs) ∧ RlA K H vs ds := by
  cases h with
  | lst h r => exact ⟨_, _, rfl, h, r⟩
theorem Rl.tupE {K : Frag} {H : Hp} {v : V} {ds : List D} (h : Rl K H v (.tup ds)) : ∃ a vs, v = .ref a ∧ SqT K H a vs ∧ RlA K H vs ds := by
  cases h with
  | tup h r => exact ⟨_, _, rfl, h, r⟩
theorem Rl.intE {K : Frag} {H : Hp} {v : V} {i : Int} (h : Rl K H v (.int i)) : v = .int i := by
  cases h; rfl
theorem Rl.blE {K : Frag} {H : Hp} {v : V} {i : Bool} (h : Rl K H v (.bl i)) : v = .bl i := by
  cases h; rfl
theorem Rl.nonE {K : Frag} {H : Hp} {v : V} (h : Rl K H v .non) : v = .non := by
  cases h; rfl
theorem RlA.repl {K : Frag} {A : Hp} {vs : List V} {ds : List D} (h : RlA K A vs ds) : ∀ n : Nat, RlA K A (List.replicate n vs).flatten (List.replicate n ds).flatten
  | 0 => .nil
  | n + 1 => by
    rw [List.replicate_succ, List.flatten_cons, List.replicate_succ, List.flatten_cons]
    exact h.app (RlA.repl h n)
section
variable {X : Cx} {c : C} (hK : c.K = X.K)
theorem fit_I {cond : Int → Int → Prop} {g : Int → Int → V} {o : O2} {go : Int → Int → D} (hg : ∀ i j H, Rl c.K H (g i j) (go i j))
    (h : ∀ x y R, o x y R → ∃ i j, x = .int i ∧ y = .int j ∧ cond i j ∧ R (go i j)) : Fit2 c (rI cond g) o := fun s σ H x y a b R Q rp hx hy ho w => by
  obtain ⟨i, j, rfl, rfl, hc, hr⟩ := h _ _ _ ho
  cases hx.intE
  cases hy.intE
  exact ⟨i, j, rfl, rfl, hc, w.same rp hr (hg i j _)⟩
theorem fit_I0 {g : Int → Int → V} {o : O2} {go : Int → Int → D} (hg : ∀ i j H, Rl c.K H (g i j) (go i j))
    (h : ∀ x y R, o x y R → ∃ i j, x = .int i ∧ y = .int j ∧ R (go i j)) : Fit2 c (rI0 g) o := fun s σ H x y a b R Q rp hx hy ho w => by
  obtain ⟨i, j, rfl, rfl, hr⟩ := h _ _ _ ho
  cases hx.intE
  cases hy.intE
  exact ⟨i, j, rfl, rfl, w.same rp hr (hg i j _)⟩
theorem fit_sub : Fit2 c (rI0 fun i j => .int (i - j)) oSub := fit_I0 (go := fun i j => .int (i - j)) (fun _ _ _ => .int _) (by (intro x y R h; cases x <;> first | exact h.elim | (cases y <;> first | exact h.elim | exact ⟨_, _, rfl, rfl, h⟩)))
theorem fit_div : Fit2 c (rI CDivW fun i j => .int (i / j)) oDiv := fit_I (go := fun i j => .int (i / j)) (fun _ _ _ => .int _) (by (intro x y R h; cases x <;> first | exact h.elim | (cases y <;> first | exact h.elim | exact ⟨_, _, rfl, rfl, h⟩)))
theorem fit_mod : Fit2 c (rI (fun _ j => 0 < j) fun i j => .int (i % j)) oMod := fit_I (go := fun i j => .int (i % j)) (fun _ _ _ => .int _) (by (intro x y R h; cases x <;> first | exact h.elim | (cases y <;> first | exact h.elim | exact ⟨_, _, rfl, rfl, h⟩)))
theorem fit_pow : Fit2 c (rI CPow fun i j => .int (i ^ j.toNat)) oPow := fit_I (go := fun i j => .int (i ^ j.toNat)) (fun _ _ _ => .int _) (by (intro x y R h; cases x <;> first | exact h.elim | (cases y <;> first | exact h.elim | exact ⟨_, _, rfl, rfl, h⟩)))
theorem fit_lt : Fit2 c (rI0 fun i j => .bl (decide (i < j))) oLt := fit_I0 (go := fun i j => .bl (decide (i < j))) (fun _ _ _ => .bl _) (by (intro x y R h; cases x <;> first | exact h.elim | (cases y <;> first | exact h.elim | exact ⟨_, _, rfl, rfl, h⟩)))
theorem fit_le : Fit2 c (rI0 fun i j => .bl (decide (i ≤ j))) oLe := fit_I0 (go := fun i j => .bl (decide (i ≤ j))) (fun _ _ _ => .bl _) (by (intro x y R h; cases x <;> first | exact h.elim | (cases y <;> first | exact h.elim | exact ⟨_, _, rfl, rfl, h⟩)))
theorem fit_gt : Fit2 c (rI0 fun i j => .bl (decide (j < i))) oGt := fit_I0 (go := fun i j => .bl (decide (j < i))) (fun _ _ _ => .bl _) (by (intro x y R h; cases x <;> first | exact h.elim | (cases y <;> first | exact h.elim | exact ⟨_, _, rfl, rfl, h⟩)))
theorem fit_ge : Fit2 c (rI0 fun i j => .bl (decide (j ≤ i))) oGe := fit_I0 (go := fun i j => .bl (decide (j ≤ i))) (fun _ _ _ => .bl _) (by (intro x y R h; cases x <;> first | exact h.elim | (cases y <;> first | exact h.elim | exact ⟨_, _, rfl, rfl, h⟩)))
include hK in
theorem fit_add : Fit2 c (fun x y H Q => rI0 (fun i j => .int (i + j)) x y H Q ∨ (fun x y H Q => rCat x y H Q ∨ rCatA X.K x y H Q) x y H Q) oAdd := fun s σ H x y a b R Q rp hx hy ho w => by
  cases a <;> first
    | exact ho.elim
    | (cases b <;> first
        | exact ho.elim
        | (cases hx.intE; cases hy.intE; exact .inl ⟨_, _, rfl, rfl, w.same rp ho (.int _)⟩)
        | (obtain ⟨p, vs, rfl, h1, r1⟩ := Rl.lstE hx
           obtain ⟨q, us, rfl, h2, r2⟩ := Rl.lstE hy
           refine .inr (.inl ⟨p, q, vs, us, rfl, rfl, wo_sub _ _ _ _ h1, wo_sub _ _ _ _ h2, ?_, w.lst rp ho.2 (r1.app r2)⟩)
           rw [r1.len, r2.len]
           exact lim_le ho.1)
        | (obtain ⟨p, vs, rfl, h1, r1⟩ := Rl.tupE hx
           obtain ⟨q, us, rfl, h2, r2⟩ := Rl.tupE hy
           refine .inr (.inr ⟨p, q, vs, us, rfl, rfl, hK ▸ (wo_sub _ _).st h1, hK ▸ (wo_sub _ _).st h2, ?_, fun e => ?_, fun _ e => ?_, fun _ _ => w.tup rp ho.2 (r1.app r2)⟩)
           · rw [r1.len, r2.len]
             exact lim_le ho.1
           · subst e
             cases r1
             exact w.same rp ho.2 hy
           · subst e
             cases r2
             refine w.same rp ho.2 ?_
             rw [List.append_nil]
             exact hx))
include hK in
theorem fit_mul : Fit2 c (fun x y H Q => rI CMul (fun i j => .int (i * j)) x y H Q ∨ (fun x y H Q => rRep x y H Q ∨ (fun x y H Q => rRepT X.K x y H Q ∨ (fun x y H Q => ∃ l xs, x = .ref l ∧ y = .int 1 ∧ SqT X.K H l xs ∧ Q (.ref l) H) x y H Q) x y H Q) x y H Q) oMul := fun s σ H x y a b R Q rp hx hy ho w => by
  cases a <;> first
    | exact ho.elim
    | (cases b <;> first
        | exact ho.elim
        | (cases hx.intE; cases hy.intE; exact .inl ⟨_, _, rfl, rfl, ho.1, w.same rp ho.2 (.int _)⟩)
        | (obtain ⟨p, vs, rfl, h1, r1⟩ := Rl.lstE hx
           cases hy.intE
           obtain ⟨h0, h9, hl, hR⟩ := ho
           refine .inr (.inl ⟨p, _, vs, rfl, rfl, wo_sub _ _ _ _ h1, by omega, by omega, ?_, w.lst rp hR (r1.repl _)⟩)
           rw [r1.len]
           exact lim_le hl)
        | (obtain ⟨p, vs, rfl, h1, r1⟩ := Rl.tupE hx
           cases hy.intE
           obtain ⟨hne, h0, h9, hl, hR⟩ := ho
           rename_i k
           by_cases k1 : k = 1
           · subst k1
             refine .inr (.inr (.inr ⟨p, vs, rfl, rfl, hK ▸ (wo_sub _ _).st h1, w.same rp hR ?_⟩))
             have e : (List.replicate (1 : Int).toNat ‹List D›).flatten = ‹List D› := by
               show (List.replicate 1 _).flatten = _
               simp
             rw [e]
             exact hx
           · refine .inr (.inr (.inl ⟨p, _, vs, rfl, rfl, hK ▸ (wo_sub _ _).st h1, fun e => ?_, by omega, h9, by rw [r1.len]; exact hl, w.tup rp hR (r1.repl _)⟩))
             subst e
             cases r1
             exact hne rfl))
theorem fit_isnot : Fit2 c (fun x y H Q => (fun x y H Q => y = .non ∧ Q (.bl (!decide (x = .non))) H) x y H Q ∨ rNotB x y H Q) (oNot oIs) := fun s σ H x y a b R Q rp hx hy ho w => by
  cases b with
  | non =>
    cases hy.nonE
    refine .inl ⟨rfl, ?_⟩
    cases hx <;> exact w.same rp ho (.bl _)
  | bl j =>
    cases a <;> first | exact ho.elim | skip
    cases hx.blE; cases hy.blE
    exact .inr ⟨_, _, rfl, rfl, w.same rp ho (.bl _)⟩
  | _ => cases a <;> exact ho.elim
end
end DL
namespace DL
open PySem L2
open PySem.W (Frag)
mutual
def D.py : D → PyData
  | .non => .none
  | .bl b => .bool b
  | .int i => .int i
  | .str x => .str x
  | .lst xs => .list (pyA xs)
  | .tup xs => .tuple (pyA xs)
  | .dic => .dict []
  | .ins _ _ _ => .none
  | .exc _ _ _ => .none
def pyA : List D → List PyData
  | [] => []
  | d :: r => D.py d :: pyA r
end
mutual
def D.plain : D → Bool
  | .lst xs => plainA xs
  | .tup xs => plainA xs
  | .dic => false
  | .ins _ _ _ => false
  | .exc _ _ _ => false
  | .non => true
  | .bl _ => true
  | .int _ => true
  | .str _ => true
def plainA : List D → Bool
  | [] => true
  | d :: r => D.plain d && plainA r
end
mutual
theorem Rl.dp {K : Frag} {H : Hp} : ∀ (d : D) {v : V}, Rl K H v d → d.plain = true → Dp K H v d.py
  | .non, _, h, _ => by cases h; exact .non
  | .bl b, _, h, _ => by cases h; exact .bl b
  | .int i, _, h, _ => by cases h; exact .int i
  | .str x, _, h, _ => by cases h; exact .str x
  | .lst xs, _, h, p => by
    cases h with
    | lst h r => exact .lst (SqL.of h) (RlA.dp xs r p)
  | .tup xs, _, h, p => by
    cases h with
    | tup h r => exact .tup h (RlA.dp xs r p)
  | .dic, _, _, p => by cases p
  | .ins _ _ _, _, _, p => by cases p
  | .exc _ _ _, _, _, p => by cases p
theorem RlA.dp {K : Frag} {H : Hp} : ∀ (ds : List D) {vs : List V}, RlA K H vs ds → plainA ds = true → DpAll K H vs (pyA ds)
  | [], _, h, _ => by cases h; exact .nil
  | d :: r, _, h, p => by
    have p' := Bool.and_eq_true_iff.mp p
    cases h with
    | cons h q => exact .cons (Rl.dp d h p'.1) (RlA.dp r q p'.2)
end
def D.okE (d : D) : Bool := d.plain && SeqAt.shaped d.py
abbrev oEq : O2 := fun x y Q => match x, y with
  | .str a, .str b => Q (.bl (decide (a = b)))
  | x, y => x.okE = true ∧ y.okE = true ∧ Q (.bl (PyData.eqv x.py y.py))
abbrev oNe : O2 := fun x y Q => match x, y with
  | .str a, .str b => Q (.bl (!decide (a = b)))
  | x, y => x.okE = true ∧ y.okE = true ∧ Q (.bl (!PyData.eqv x.py y.py))
theorem Rl.strE {K : Frag} {H : Hp} {v : V} {x : PySem.Str} (h : Rl K H v (.str x)) : v = .str x := by
  cases h; rfl
theorem str_dec (a b : PySem.Str) : decide (V.str a = V.str b) = decide (a = b) := by
  by_cases e : a = b
  · subst e; simp
  · have : ¬ V.str a = V.str b := fun q => e (V.str.inj q)
    rw [decide_eq_false this, decide_eq_false e]
theorem plain_ints : ∀ ns : List Int, plainA (ns.map D.int) = true
  | [] => rfl
  | _ :: r => plain_ints r
theorem py_ints : ∀ ns : List Int, pyA (ns.map D.int) = ns.map PyData.int
  | [] => rfl
  | n :: r => congrArg (PyData.int n :: ·) (py_ints r)
theorem lay_ints : ∀ ns : List Int, PyData.canLayAll0 (ns.map PyData.int) = true
  | [] => rfl
  | n :: r => by
    show (PyData.canLay0 (.int n) && PyData.canLayAll0 (r.map PyData.int)) = true
    rw [lay_ints r]
    rfl
theorem depth_ints : ∀ ns : List Int, PyData.depthAll (ns.map PyData.int) = 0
  | [] => rfl
  | n :: r => by
    show max (PyData.depth (.int n)) (PyData.depthAll (r.map PyData.int)) = 0
    rw [depth_ints r]
    rfl
theorem eqv_ints : ∀ ns ms : List Int, PyData.eqvAll (ns.map PyData.int) (ms.map PyData.int) = decide (ns = ms)
  | [], [] => rfl
  | [], _ :: _ => rfl
  | _ :: _, [] => rfl
  | n :: r, m :: q => by
    show (PyData.eqv (.int n) (.int m) && PyData.eqvAll (r.map PyData.int) (q.map PyData.int)) = _
    rw [eqv_ints r q]
    show ((n == m) && decide (r = q)) = decide (n :: r = m :: q)
    by_cases h1 : n = m
    · subst h1
      by_cases h2 : r = q
      · simp [h2]
      · simp [h2]
    · have e : (n == m) = false := by simpa using h1
      rw [e]
      simp [h1]
theorem okE_tupI (ns : List Int) : (D.tup (ns.map D.int)).okE = true := by
  show (plainA (ns.map D.int) && (PyData.canLayAll0 (pyA (ns.map D.int)) && decide (PyData.depthAll (pyA (ns.map D.int)) + 1 ≤ 64))) = true
  rw [plain_ints, py_ints, lay_ints, depth_ints]
  rfl
theorem okE_lstI (ns : List Int) : (D.lst (ns.map D.int)).okE = true := okE_tupI ns
theorem eqv_tupI (ns ms : List Int) : PyData.eqv (D.tup (ns.map D.int)).py (D.tup (ms.map D.int)).py = decide (ns = ms) := by
  show PyData.eqvAll (pyA _) (pyA _) = _
  rw [py_ints, py_ints, eqv_ints]
def D.flat : D → Bool
  | .non => true
  | .bl _ => true
  | .int _ => true
  | .str _ => true
  | _ => false
def D.v : D → V
  | .non => .non
  | .bl b => .bl b
  | .int i => .int i
  | .str x => .str x
  | _ => .non
theorem Rl.flat {K : Frag} {H : Hp} {v : V} {d : D} (h : Rl K H v d) (f : d.flat = true) : v = d.v ∧ flatV v = true := by
  cases h <;> first | exact ⟨rfl, rfl⟩ | cases f
theorem RlA.flat {K : Frag} {H : Hp} : ∀ {vs : List V} {ds : List D}, RlA K H vs ds → ds.all D.flat = true → vs = ds.map D.v ∧ vs.all flatV = true
  | _, _, .nil, _ => ⟨rfl, rfl⟩
  | _, _, .cons h r, f => by
    rw [List.all_cons] at f
    have f' := Bool.and_eq_true_iff.mp f
    obtain ⟨e1, a1⟩ := h.flat f'.1
    obtain ⟨e2, a2⟩ := RlA.flat r f'.2
    exact ⟨by rw [List.map_cons, ← e1, ← e2], by rw [List.all_cons, a1, a2]; rfl⟩
def D.items : D → Option (List D)
  | .lst xs => some xs
  | .tup xs => some xs
  | _ => none
abbrev oIn : O2 := fun x y Q => x.flat = true ∧ ∃ ds, y.items = some ds ∧ ds.all D.flat = true ∧ Q (.bl (inV x.v (ds.map D.v)))
theorem Rl.items {K : Frag} {H : Hp} {v : V} {d : D} {ds : List D} (h : Rl K H v d) (e : d.items = some ds) : ∃ a vs, v = .ref a ∧ (SqL K H a vs ∨ SqT K H a vs) ∧ RlA K H vs ds := by
  cases d <;> first | cases e | skip
  · obtain ⟨a, vs, e, h, r⟩ := h.lstE
    exact ⟨a, vs, e, .inl (SqL.of h), r⟩
  · obtain ⟨a, vs, e, h, r⟩ := h.tupE
    exact ⟨a, vs, e, .inr h, r⟩
theorem sq_all {K : Frag} {A B : Hp} (x : Sub A B) {a : Addr} {vs : List V} (h : SqL K A a vs ∨ SqT K A a vs) : SqL K B a vs ∨ SqT K B a vs := h.elim (fun h => .inl (x.sl h)) fun h => .inr (x.st h)
section
variable {X : Cx} {c : C} (hK : c.K = X.K)
include hK
theorem fit_eq : Fit2 c (fun x y H Q => rEq x y H Q ∨ rEqD X.K x y H Q) oEq := fun s σ H x y a b R Q rp hx hy ho w => by
  unfold oEq at ho
  split at ho
  · cases hx.strE
    cases hy.strE
    exact .inl ⟨rfl, by rw [str_dec]; exact w.same rp ho (.bl _)⟩
  · obtain ⟨h1, h2, ho⟩ := ho
    have p1 := Bool.and_eq_true_iff.mp h1
    have p2 := Bool.and_eq_true_iff.mp h2
    exact .inr ⟨_, _, hK ▸ Rl.dp _ hx.all p1.1, hK ▸ Rl.dp _ hy.all p2.1, p1.2, p2.2, w.same rp ho (.bl _)⟩
theorem fit_ne : Fit2 c (fun x y H Q => rNe x y H Q ∨ rNeD X.K x y H Q) oNe := fun s σ H x y a b R Q rp hx hy ho w => by
  unfold oNe at ho
  split at ho
  · cases hx.strE
    cases hy.strE
    exact .inl ⟨rfl, by rw [str_dec]; exact w.same rp ho (.bl _)⟩
  · obtain ⟨h1, h2, ho⟩ := ho
    have p1 := Bool.and_eq_true_iff.mp h1
    have p2 := Bool.and_eq_true_iff.mp h2
    exact .inr ⟨_, _, hK ▸ Rl.dp _ hx.all p1.1, hK ▸ Rl.dp _ hy.all p2.1, p1.2, p2.2, w.same rp ho (.bl _)⟩
theorem fit_in : Fit2 c (rIn X.K false) oIn := fun s σ H x y a b R Q rp hx hy ⟨h1, ds, h2, h3, ho⟩ w => by
  obtain ⟨e1, f1⟩ := hx.flat h1
  obtain ⟨p, vs, rfl, hs, r⟩ := hy.items h2
  obtain ⟨e2, f2⟩ := r.flat h3
  refine ⟨p, vs, rfl, hK ▸ sq_all (wo_sub _ _) hs, f1, f2, ?_⟩
  rw [e1, e2]
  exact w.same rp ho (.bl _)
abbrev oIx : O2 := fun x y Q => match y with
  | .int i => ∃ ds d, x.items = some ds ∧ atI ds i = some d ∧ Q d
  | _ => False
omit hK in
theorem at_rl {K : Frag} {A : Hp} {vs : List V} {ds : List D} {i : Int} {d : D} (r : RlA K A vs ds) (h : atI ds i = some d) : ∃ v, atI vs i = some v ∧ Rl K A v d := by
  unfold atI at h ⊢
  rw [r.len]
  cases e : ixN ds.length i with
  | none => rw [e] at h; cases h
  | some j =>
    rw [e] at h
    exact r.getD (i := j) h
theorem fit_ix : Fit2 c (rIx X.K) oIx := fun s σ H x y a b R Q rp hx hy ho w => by
  cases b <;> first | exact ho.elim | skip
  rename_i i
  cases hy.intE
  obtain ⟨ds, d, h1, h2, hR⟩ := ho
  obtain ⟨p, vs, rfl, hs, r⟩ := hx.items h1
  obtain ⟨v, h3, h4⟩ := at_rl r h2
  rcases sq_all (wo_sub _ _) hs with hs | hs
  · exact .inl ⟨p, vs, i, v, rfl, rfl, hK ▸ hs, h3, w.same rp hR h4⟩
  · exact .inr (.inl ⟨p, vs, i, v, rfl, rfl, hK ▸ hs, h3, w.same rp hR h4⟩)
end
def D.tru : D → Option Bool
  | .non => some false
  | .bl b => some b
  | .int i => some (i != 0)
  | .lst xs => some (!xs.isEmpty)
  | .tup xs => some (!xs.isEmpty)
  | .dic => some false
  | _ => none
abbrev dTru (t : DE) : DT := fun s Q => t s fun d k => ∃ b, d.tru = some b ∧ Q b k
abbrev dTB (t : DE) : DT := fun s Q => t s fun d k => ∃ b, d = .bl b ∧ Q b k
abbrev dAnd (t u : DT) : DT := fun s Q => t s fun b k => if b = true then u (s.at k) Q else Q false k
abbrev dOr (t u : DT) : DT := fun s Q => t s fun b k => if b = true then Q true k else u (s.at k) Q
abbrev dNot (t : DT) : DT := fun s Q => t s fun b k => Q (!b) k
abbrev dIf (t : DT) (a b : DE) : DE := fun s Q => t s fun x k => if x = true then a (s.at k) Q else b (s.at k) Q
abbrev dAndV (t u : DE) : DE := fun s Q => t s fun d k => ∃ b, d = .bl b ∧ if b = true then u (s.at k) Q else Q (.bl false) k
abbrev dNotV (t : DE) : DE := fun s Q => t s fun d k => ∃ b, d = .bl b ∧ Q (.bl (!b)) k
theorem isEmpty_rl {K : Frag} {A : Hp} {vs : List V} {ds : List D} (r : RlA K A vs ds) : vs.isEmpty = ds.isEmpty := by
  cases r <;> rfl
section
variable {X : Cx} {c : C}
theorem pt_tru (hK : c.K = X.K) {a : Expr} {t : DE} (h : PE X a (LE c t)) (he : ∀ whole, isTrue a X.env whole = (do let v ← whole; standAt a.pos; holding [v] (truthy v)) := by intro _; rfl) : PT X a (LT c (dTru t)) :=
  (pt_truth h he).weak fun σ H Q ⟨s, R, rp, q, f⟩ => by
    refine ⟨s, _, rp, q, fun d k ⟨b, hb, hR⟩ v H' r1 a1 e1 => ⟨b, ?_, f b k hR H' r1 a1⟩⟩
    cases d <;> first | cases hb | skip
    · cases e1.nonE; rfl
    · cases e1.blE; rfl
    · cases e1.intE; rfl
    · obtain ⟨p, vs, rfl, h1, r⟩ := e1.lstE
      exact .inl ⟨vs, hK ▸ SqL.of (wo_sub _ _ _ _ h1), by rw [isEmpty_rl r]⟩
    · obtain ⟨p, vs, rfl, h1, r⟩ := e1.tupE
      exact .inr (.inl ⟨vs, hK ▸ (wo_sub _ _).st h1, by rw [isEmpty_rl r]⟩)
    · cases e1 with
      | dic h => exact .inr (.inr ⟨_, wo_sub _ _ _ _ h, rfl⟩)
theorem LT.ofB {t : DE} {σ : L2.St} {H : Hp} {Q : Bool → Hp → Prop} (h : LT c (dTB t) σ H Q) : LE c t σ H fun x H1 => ∃ b, x = .bl b ∧ Q b H1 := by
  obtain ⟨s, R, rp, q, f⟩ := h
  refine ⟨s, _, rp, q, fun d k ⟨b, hb, hR⟩ v H' r1 a1 e1 => ?_⟩
  subst hb
  cases e1.blE
  exact ⟨b, rfl, f b k hR H' r1 a1⟩
theorem pd_cmp {a b : Expr} {op : CmpOp} {pos : Pos} {ta tb : DE} {r : R2} {o : O2} (ho : OpR X (compareOp op) r) (f : Fit2 c r o) (ha : PE X a (LE c ta)) (hb : PE X b (LE c tb)) (hm : behindInMarks op b = false := by first | exact nomark _ | rfl) :
    PE X (.Compare a [op] [b] pos) (LE c (dOp o ta tb)) := (pe_cmpR ho ha hb hm).weak fun σ H Q h => LE.op f σ H Q h
theorem ptd_cmp {a b : Expr} {op : CmpOp} {pos : Pos} {ta tb : DE} {r : R2} {o : O2} (ho : OpR X (compareOp op) r) (f : Fit2 c r o) (ha : PE X a (LE c ta)) (hb : PE X b (LE c tb)) (hm : behindInMarks op b = false := by first | exact nomark _ | rfl) :
    PT X (.Compare a [op] [b] pos) (LT c (dTB (dOp o ta tb))) := (pt_cmpR ho ha hb hm).weak fun σ H Q h => LE.op f σ H _ h.ofB
abbrev dCh (o o' : O2) (a b e : DE) : DE := fun s Q => a s fun x k => b (s.at k) fun y k1 => o x y fun z => ∃ q, z = .bl q ∧ if q = true then e (s.at k1) fun w k2 => o' y w fun u => Q u k2 else Q (.bl false) k1
theorem LE.chain {r r' : R2} {o o' : O2} {a b e : DE} (f : Fit2 c r o) (f' : Fit2 c r' o') (σ : L2.St) (H : Hp) (Q : VK) (h : LE c (dCh o o' a b e) σ H Q) : tChain r r' (LE c a) (LE c b) (LE c e) σ H Q := by
  obtain ⟨s, R, rp, h, fin⟩ := h
  refine ⟨s, _, rp, h, fun x k h1 v H1 r1 a1 e1 => ?_⟩
  refine ⟨s.at k, _, r1, h1, fun y k2 h2 u H2 r2 a2 e2 => ?_⟩
  refine f (s.at k2) σ H2 v u x y _ _ r2 (e1.mono a2.sub) e2 h2 fun z ⟨q, hq, hz⟩ w H3 r3 a3 e3 => ?_
  subst hq
  cases e3.blE
  refine ⟨q, rfl, ?_⟩
  cases q with
  | false => exact fin _ k2 hz _ H3 r3 ((a1.trans a2).trans a3) (.bl false)
  | true =>
    refine ⟨s.at k2, _, r3, hz, fun d k4 h4 w4 H4 r4 a4 e4 => ?_⟩
    exact f' (s.at k4) σ H4 u w4 y d _ Q r4 ((e2.mono a3.sub).mono a4.sub) e4 h4 fun z hz w H5 r5 a5 e5 => fin z k4 hz w H5 r5 ((((a1.trans a2).trans a3).trans a4).trans a5) e5
theorem pd_chain {a b e : Expr} {op op' : CmpOp} {pos : Pos} {ta tb te : DE} {r r' : R2} {o o' : O2} (ho : OpR X (compareOp op) r) (f : Fit2 c r o) (ho' : OpR X (compareOp op') r') (f' : Fit2 c r' o') (ha : PE X a (LE c ta)) (hb : PE X b (LE c tb)) (he : PE X e (LE c te)) (hm : lastMarks [op, op'] [b, e] = false := by rfl) :
    PE X (.Compare a [op, op'] [b, e] pos) (LE c (dCh o o' ta tb te)) := (pe_chain ho ho' ha hb he hm).weak fun σ H Q h => LE.chain f f' σ H Q h
theorem pwd_and1 {a : Expr} {pos : Pos} {t : DT} (ha : PT X a (LT c t)) : PW X (.BoolOp .And [a] pos) (LT c t) := pw_and1 ha
theorem pwd_or1 {a : Expr} {pos : Pos} {t : DT} (ha : PT X a (LT c t)) : PW X (.BoolOp .Or [a] pos) (LT c t) := pw_or1 ha
theorem pwd_and {a b : Expr} {rest : List Expr} {pos : Pos} {t u : DT} (ha : PT X a (LT c t)) (hb : PW X (.BoolOp .And (b :: rest) pos) (LT c u)) : PW X (.BoolOp .And (a :: b :: rest) pos) (LT c (dAnd t u)) :=
  (pw_and ha hb).weak fun σ H Q ⟨s, R, rp, q, f⟩ => by
    refine ⟨s, _, rp, q, fun b k hb H1 r1 a1 => ?_⟩
    cases b with
    | true => exact ⟨s.at k, R, r1, hb, fun b' k' hR H2 r2 a2 => f b' k' hR H2 r2 (a1.trans a2)⟩
    | false => exact f false k hb H1 r1 a1
theorem pwd_or {a b : Expr} {rest : List Expr} {pos : Pos} {t u : DT} (ha : PT X a (LT c t)) (hb : PW X (.BoolOp .Or (b :: rest) pos) (LT c u)) : PW X (.BoolOp .Or (a :: b :: rest) pos) (LT c (dOr t u)) :=
  (pw_or ha hb).weak fun σ H Q ⟨s, R, rp, q, f⟩ => by
    refine ⟨s, _, rp, q, fun b k hb H1 r1 a1 => ?_⟩
    cases b with
    | false => exact ⟨s.at k, R, r1, hb, fun b' k' hR H2 r2 a2 => f b' k' hR H2 r2 (a1.trans a2)⟩
    | true => exact f true k hb H1 r1 a1
theorem ptd_not {a : Expr} {pos : Pos} {t : DT} (ha : PT X a (LT c t)) : PT X (.UnaryOp .Not a pos) (LT c (dNot t)) :=
  (pt_not ha).weak fun σ H Q ⟨s, R, rp, q, f⟩ => ⟨s, _, rp, q, fun b k hb H1 r1 a1 => f _ k hb H1 r1 a1⟩
theorem pd_if {t a b : Expr} {pos : Pos} {tt : DT} {ta tb : DE} (ht : PT X t (LT c tt)) (ha : PE X a (LE c ta)) (hb : PE X b (LE c tb)) : PE X (.IfExp t a b pos) (LE c (dIf tt ta tb)) :=
  (pe_ifExp ht ha hb).weak fun σ H Q ⟨s, R, rp, q, f⟩ => by
    refine ⟨s, _, rp, q, fun b k hb H1 r1 a1 => ?_⟩
    cases b with
    | true => exact ⟨s.at k, R, r1, hb, fun d k' hR v H2 r2 a2 e => f d k' hR v H2 r2 (a1.trans a2) e⟩
    | false => exact ⟨s.at k, R, r1, hb, fun d k' hR v H2 r2 a2 e => f d k' hR v H2 r2 (a1.trans a2) e⟩
theorem pd_one {a : Expr} {op} {pos : Pos} {t : DE} (h : PE X a (LE c t)) : PE X (.BoolOp op [a] pos) (LE c t) := pe_one h
theorem pd_andV {a b : Expr} {rest : List Expr} {pos : Pos} {t u : DE} (ha : PE X a (LE c t)) (hb : PE X (.BoolOp .And (b :: rest) pos) (LE c u)) : PE X (.BoolOp .And (a :: b :: rest) pos) (LE c (dAndV t u)) :=
  (pe_and ha hb).weak fun σ H Q ⟨s, R, rp, q, f⟩ => by
    refine ⟨s, _, rp, q, fun d k ⟨b, hd, hb⟩ v H1 r1 a1 e1 => ?_⟩
    subst hd
    cases e1.blE
    refine ⟨b, rfl, ?_⟩
    cases b with
    | true => exact ⟨s.at k, R, r1, hb, fun d k' hR v H2 r2 a2 e => f d k' hR v H2 r2 (a1.trans a2) e⟩
    | false => exact f _ k hb _ H1 r1 a1 (.bl _)
theorem pd_notV {a : Expr} {pos : Pos} {t : DE} (ha : PE X a (LE c t)) : PE X (.UnaryOp .Not a pos) (LE c (dNotV t)) :=
  (pe_not ha).weak fun σ H Q ⟨s, R, rp, q, f⟩ => by
    refine ⟨s, _, rp, q, fun d k ⟨b, hd, hb⟩ v H1 r1 a1 e1 => ?_⟩
    subst hd
    cases e1.blE
    exact ⟨b, rfl, f _ k hb _ H1 r1 a1 (.bl _)⟩
end
abbrev dNil : DA := fun s Q => Q [] s.k
abbrev dCons (t : DE) (u : DA) : DA := fun s Q => t s fun d k => u (s.at k) fun ds k' => Q (d :: ds) k'
abbrev dTup (t : DA) : DE := fun s Q => t s fun ds k => ds.length ≤ lim ∧ Q (.tup ds) k
section
variable {X : Cx} {c : C}
theorem pad_nil : PA X [] (LA c dNil) := pa_nil.weak fun σ H Q ⟨s, R, rp, q, f⟩ => f _ _ q [] H rp AdvE.refl .nil
theorem pad_cons {e : Expr} {es : List Expr} {t : DE} {u : DA} (ha : PE X e (LE c t)) (hr : PA X es (LA c u)) (hs : starEach (e :: es) X.env = (false, eval e X.env) :: starEach es X.env := by rfl) : PA X (e :: es) (LA c (dCons t u)) :=
  (pa_cons ha hr hs).weak fun σ H Q ⟨s, R, rp, q, f⟩ =>
    ⟨s, _, rp, q, fun d k hd v H1 r1 a1 e1 => ⟨s.at k, _, r1, hd, fun ds k2 h2 vs H2 r2 a2 e2 => f _ k2 h2 _ H2 r2 (a1.trans a2) (.cons (e1.mono a2.sub) e2)⟩⟩
theorem pd_tup {es : List Expr} {x1} {pos : Pos} {t : DA} (h : PA X es (LA c t)) : PE X (.Tuple es x1 pos) (LE c (dTup t)) :=
  (pe_tup h).weak fun σ H Q ⟨s, R, rp, q, f⟩ => by
    refine ⟨s, _, rp, q, fun ds k ⟨hl, hR⟩ vs H1 r1 a1 e1 => ⟨by rw [e1.len]; exact lim_le hl, ?_⟩⟩
    exact Wi.tup (c := c) (s := s.at k) (σ := σ) (R := fun d => d = .tup ds) (fun d hd v H' r' a' e' => by subst hd; exact f _ k hR v H' r' (a1.trans a') e') r1 rfl e1
theorem pd_bin {a b : Expr} {op : Operator} {pos : Pos} {ta tb : DE} {r : R2} {o : O2} (ho : OpR X (binaryOp op) r) (f : Fit2 c r o) (ha : PE X a (LE c ta)) (hb : PE X b (LE c tb)) : PE X (.BinOp a op b pos) (LE c (dOp o ta tb)) :=
  (pe_op ho ha hb).weak fun σ H Q h => LE.op f σ H Q h
theorem pd_add (hK : c.K = X.K) {a b : Expr} {pos : Pos} {ta tb : DE} (ha : PE X a (LE c ta)) (hb : PE X b (LE c tb)) : PE X (.BinOp a .Add b pos) (LE c (dOp oAdd ta tb)) := pd_bin (OpR.or op_add (OpR.or op_cat op_catA)) (fit_add hK) ha hb
theorem pd_mul (hK : c.K = X.K) {a b : Expr} {pos : Pos} {ta tb : DE} (ha : PE X a (LE c ta)) (hb : PE X b (LE c tb)) : PE X (.BinOp a .Mult b pos) (LE c (dOp oMul ta tb)) := pd_bin (OpR.or op_mul (OpR.or op_rep (OpR.or op_repT op_rep1))) (fit_mul hK) ha hb
theorem pd_sub {a b : Expr} {pos : Pos} {ta tb : DE} (ha : PE X a (LE c ta)) (hb : PE X b (LE c tb)) : PE X (.BinOp a .Sub b pos) (LE c (dOp oSub ta tb)) := pd_bin op_sub fit_sub ha hb
theorem pd_div {a b : Expr} {pos : Pos} {ta tb : DE} (ha : PE X a (LE c ta)) (hb : PE X b (LE c tb)) : PE X (.BinOp a .FloorDiv b pos) (LE c (dOp oDiv ta tb)) := pd_bin op_fdivW fit_div ha hb
theorem pd_mod {a b : Expr} {pos : Pos} {ta tb : DE} (ha : PE X a (LE c ta)) (hb : PE X b (LE c tb)) : PE X (.BinOp a .Mod b pos) (LE c (dOp oMod ta tb)) := pd_bin op_mod fit_mod ha hb
theorem pd_pow {a b : Expr} {pos : Pos} {ta tb : DE} (ha : PE X a (LE c ta)) (hb : PE X b (LE c tb)) : PE X (.BinOp a .Pow b pos) (LE c (dOp oPow ta tb)) := pd_bin op_pow fit_pow ha hb
theorem pd_ix (hK : c.K = X.K) {a b : Expr} {pos : Pos} {ta tb : DE} (ha : PE X a (LE c ta)) (hb : PE X b (LE c tb)) (hs : PlainIx b := by exact fun _ _ => rfl) : PE X (.Subscript a b pos) (LE c (dOp oIx ta tb)) :=
  (pe_ix ix_seq ha hb hs).weak fun σ H Q h => LE.op (fit_ix hK) σ H Q h
end
end DL
namespace DL
open PySem L2
open PySem.W (Frag)
def Yl (c : C) (s0 : S) (Hs : Hp) (J : It) (items : List D) : Prop := ∀ (i : Nat) (s : S) (σ : L2.St) (H : Hp), Rep c s σ H → Adv c s0 Hs s H →
  (items.length ≤ i → J.stop i H) ∧ ∀ d, items[i]? = some d → J.go i H ∧ ∀ x H', J.yld i H x H' → Rep c s σ H' ∧ AdvE c s.X H H' ∧ Rl c.K (c.hid s.X H') x d
abbrev DI := S → (List D → Nat → Prop) → Prop
def LI (c : C) (t : DI) : TI := fun σ H R => ∃ s Z, Rep c s σ H ∧ t s Z ∧ ∀ items k, Z items k → ∀ J H', Rep c (s.at k) σ H' → AdvE c s.X H H' → Yl c s H' J items → R J H'
abbrev iSeq (t : DE) : DI := fun s Q => t s fun d k => ∃ ds, d.items = some ds ∧ Q ds k
abbrev iLst (t : DE) : DI := fun s Q => t s fun d k => ∃ ds, d = .lst ds ∧ Q ds k
abbrev iTp (t : DE) : DI := fun s Q => t s fun d k => ∃ ds, d = .tup ds ∧ Q ds k
@[reducible] def rngD (lo : Int) (n : Nat) : List D := (List.range n).map fun (i : Nat) => .int (lo + i)
abbrev iR1 (t : DE) : DI := fun s Q => t s fun d k => ∃ j, d = .int j ∧ -(2 ^ 62) ≤ j ∧ j < 2 ^ 62 ∧ Q (rngD 0 j.toNat) k
abbrev iR2 (t u : DE) : DI := fun s Q => t s fun d k => u (s.at k) fun e k' => ∃ i j, d = .int i ∧ e = .int j ∧ (-(2 ^ 62) ≤ i ∧ i < 2 ^ 62 ∧ -(2 ^ 62) ≤ j ∧ j < 2 ^ 62) ∧ Q (rngD i (j - i).toNat) k'
theorem rngD_at {lo : Int} {n i : Nat} {d : D} (h : (rngD lo n)[i]? = some d) : i < n ∧ d = .int (lo + i) := by
  unfold rngD at h
  rw [List.getElem?_map] at h
  by_cases hi : i < n
  · rw [List.getElem?_range hi] at h
    exact ⟨hi, (Option.some.inj h).symm⟩
  · rw [List.getElem?_eq_none (by rw [List.length_range]; omega)] at h
    cases h
theorem rngD_len (lo : Int) (n : Nat) : (rngD lo n).length = n := by unfold rngD; rw [List.length_map, List.length_range]
theorem Yl.range {c : C} {s0 : S} {Hs : Hp} {lo : Int} {n : Nat} : Yl c s0 Hs (Itr lo n) (rngD lo n) := fun i s σ H rp _ => by
  refine ⟨fun h => by rw [rngD_len] at h; exact h, fun d hd => ?_⟩
  obtain ⟨hi, rfl⟩ := rngD_at hd
  refine ⟨hi, fun x H' ⟨e1, e2⟩ => ?_⟩
  subst e1 e2
  exact ⟨rp, AdvE.refl, .int _⟩
theorem Yl.list {c : C} {s0 : S} {Hs : Hp} {K : Frag} {a : Addr} {vs : List V} {ds : List D} (hK : c.K = K) (h : c.hid s0.X Hs a = some (.lst vs)) (r : RlA c.K (c.hid s0.X Hs) vs ds) : Yl c s0 Hs (Itl K a) ds := fun i s σ H rp ad => by
  have h1 : SqL K H a vs := SqL.of (wo_sub _ _ _ _ (ad _ _ h))
  have r1 := r.mono ad
  refine ⟨fun hl => ⟨vs, h1, by rw [r.len]; exact hl⟩, fun d hd => ?_⟩
  obtain ⟨v, hv, hr⟩ := r1.getD hd
  refine ⟨⟨vs, v, h1, hv⟩, fun x H' ⟨e1, e2⟩ => ?_⟩
  subst e1
  have e3 := e2 vs h1
  rw [hv] at e3
  cases e3
  exact ⟨rp, AdvE.refl, hr⟩
theorem Yl.tup {c : C} {s0 : S} {Hs : Hp} {K : Frag} {a : Addr} {vs : List V} {ds : List D} (hK : c.K = K) (h : SqT c.K (c.hid s0.X Hs) a vs) (r : RlA c.K (c.hid s0.X Hs) vs ds) : Yl c s0 Hs (Itt K a) ds := fun i s σ H rp ad => by
  subst hK
  have h1 : SqT c.K H a vs := (ad.trans (wo_sub _ _)).st h
  have r1 := r.mono ad
  refine ⟨fun hl => ⟨vs, h1, by rw [r.len]; exact hl⟩, fun d hd => ?_⟩
  obtain ⟨v, hv, hr⟩ := r1.getD hd
  refine ⟨⟨vs, v, h1, hv⟩, fun x H' ⟨e1, e2⟩ => ?_⟩
  subst e1
  have e3 := e2 vs h1
  rw [hv] at e3
  cases e3
  exact ⟨rp, AdvE.refl, hr⟩
@[reducible] def pairD (as bs : List D) : List D := (as.zip bs).map fun p => .tup [p.1, p.2]
@[reducible] def enumD (n : Nat) : List D → List D
  | [] => []
  | d :: r => .tup [.int n, d] :: enumD (n + 1) r
theorem enum_at : ∀ {ds : List D} {n i : Nat} {d : D}, (enumD n ds)[i]? = some d → ∃ e, ds[i]? = some e ∧ d = .tup [.int ((n + i : Nat) : Int), e]
  | [], _, _, _, h => by cases h
  | e :: r, n, 0, d, h => ⟨e, rfl, (Option.some.inj h).symm⟩
  | e :: r, n, i + 1, d, h => by
    obtain ⟨x, h1, h2⟩ := enum_at (ds := r) (n := n + 1) (i := i) h
    exact ⟨x, h1, by rw [h2]; congr 3; omega⟩
theorem enum_len : ∀ (ds : List D) (n : Nat), (enumD n ds).length = ds.length
  | [], _ => rfl
  | _ :: r, n => congrArg (· + 1) (enum_len r (n + 1))
theorem Yl.pair {c : C} {s : S} {σ : L2.St} {H : Hp} {T : Addr} {x y : V} {d e : D} (rp : Rep c s σ H) (hT : H T = none) (h1 : Rl c.K (c.hid s.X H) x d) (h2 : Rl c.K (c.hid s.X H) y e) :
    Rep c s σ (upd H T (.tup [x, y])) ∧ AdvE c s.X H (upd H T (.tup [x, y])) ∧ Rl c.K (c.hid s.X (upd H T (.tup [x, y]))) (.ref T) (.tup [d, e]) := by
  have n := rp.new (o := .tup [x, y]) hT
  exact ⟨n.1, n.2, .tup (SqT.of (rp.at_new hT)) (.cons (h1.mono n.2.sub) (.cons (h2.mono n.2.sub) .nil))⟩
theorem Yl.enum {c : C} {s0 : S} {Hs : Hp} {K : Frag} {a : Addr} {vs : List V} {ds : List D} (hK : c.K = K) (h : c.hid s0.X Hs a = some (.lst vs)) (r : RlA c.K (c.hid s0.X Hs) vs ds) : Yl c s0 Hs (Ite K a) (enumD 0 ds) := fun i s σ H rp ad => by
  have h1 : SqL K H a vs := SqL.of (wo_sub _ _ _ _ (ad _ _ h))
  have r1 := r.mono ad
  refine ⟨fun hl => ⟨vs, h1, by rw [r.len, ← enum_len ds 0]; exact hl⟩, fun d hd => ?_⟩
  obtain ⟨e, he, rfl⟩ := enum_at hd
  obtain ⟨v, hv, hr⟩ := r1.getD he
  refine ⟨⟨vs, v, h1, hv⟩, fun x H' ⟨T, y, e1, e2, e3, e4⟩ => ?_⟩
  subst e1 e3
  have e5 := e4 vs h1
  rw [hv] at e5
  cases e5
  rw [Nat.zero_add]
  exact Yl.pair rp e2 (.int _) hr
theorem pair_at {as bs : List D} {i : Nat} {d : D} (h : (pairD as bs)[i]? = some d) : ∃ x y, as[i]? = some x ∧ bs[i]? = some y ∧ d = .tup [x, y] := by
  unfold pairD at h
  rw [List.getElem?_map] at h
  cases e : (as.zip bs)[i]? with
  | none => rw [e] at h; cases h
  | some p =>
    rw [e] at h
    obtain ⟨h1, h2⟩ := List.getElem?_zip_eq_some.mp e
    exact ⟨p.1, p.2, h1, h2, (Option.some.inj h).symm⟩
theorem pair_len (as bs : List D) : (pairD as bs).length = min as.length bs.length := by unfold pairD; rw [List.length_map, List.length_zip]
theorem Yl.zipT {c : C} {s0 : S} {Hs : Hp} {K : Frag} {a b : Addr} {vs us : List V} {ds es : List D} (hK : c.K = K) (h : SqT c.K (c.hid s0.X Hs) a vs) (r : RlA c.K (c.hid s0.X Hs) vs ds)
    (h' : SqT c.K (c.hid s0.X Hs) b us) (r' : RlA c.K (c.hid s0.X Hs) us es) : Yl c s0 Hs (RZ.ItzT K a b) (pairD ds es) := fun i s σ H rp ad => by
  subst hK
  have h1 : SqT c.K H a vs := (ad.trans (wo_sub _ _)).st h
  have h2 : SqT c.K H b us := (ad.trans (wo_sub _ _)).st h'
  have r1 := r.mono ad
  have r2 := r'.mono ad
  refine ⟨fun hl => ⟨vs, us, h1, h2, by rw [pair_len] at hl; rw [r.len, r'.len]; omega⟩, fun d hd => ?_⟩
  obtain ⟨x, y, hx, hy, rfl⟩ := pair_at hd
  obtain ⟨v, hv, hr⟩ := r1.getD hx
  obtain ⟨u, hu, hr'⟩ := r2.getD hy
  refine ⟨⟨vs, us, v, u, h1, h2, hv, hu⟩, fun z H' ⟨T, v', u', e1, e2, e3, e4, e5⟩ => ?_⟩
  subst e1 e3
  have q1 := e4 vs h1
  have q2 := e5 us h2
  rw [hv] at q1
  rw [hu] at q2
  cases q1
  cases q2
  exact Yl.pair rp e2 hr hr'
section
variable {X : Cx} {c : C} {tg : Expr}
theorem PI.weak {iter : Expr} {t t' : TI} (h : PI X tg iter t) (w : ∀ σ H R, t' σ H R → t σ H R) : PI X tg iter t' := ⟨fun p s σ H R I q => h.run p s σ H R I (w _ _ _ q)⟩
theorem pid_list (hK : c.K = X.K) {l : Expr} {t : DE} (h : PE X l (LE c t)) : PI X tg l (LI c (iLst t)) :=
  PI.weak (pi_list h) fun σ H R ⟨s, Z, rp, q, f⟩ => ⟨s, _, rp, q, fun d k ⟨ds, hd, hz⟩ v H1 r1 a1 e1 => by
    subst hd
    obtain ⟨a, vs, rfl, h1, r⟩ := e1.lstE
    exact ⟨a, rfl, ⟨vs, SqL.of (wo_sub _ _ _ _ h1)⟩, f ds k hz _ H1 r1 a1 (Yl.list hK h1 r)⟩⟩
theorem pid_tup (hK : c.K = X.K) {l : Expr} {t : DE} (h : PE X l (LE c t)) : PI X tg l (LI c (iTp t)) :=
  PI.weak (pi_tup h) fun σ H R ⟨s, Z, rp, q, f⟩ => ⟨s, _, rp, q, fun d k ⟨ds, hd, hz⟩ v H1 r1 a1 e1 => by
    subst hd
    obtain ⟨a, vs, rfl, h1, r⟩ := e1.tupE
    exact ⟨a, rfl, ⟨vs, hK ▸ (wo_sub _ _).st h1⟩, f ds k hz _ H1 r1 a1 (Yl.tup hK h1 r)⟩⟩
theorem pid_r1 {a : Expr} {t : DE} {p pos : Pos} (hm : X.mg "range" = none) (ha : PE X a (LE c t)) (hg : Gl X "range" := by rfl) (hs : starEach [a] X.env = [(false, eval a X.env)] := by rfl) : PI X tg (.Call (.Name "range" p) [a] [] pos) (LI c (iR1 t)) :=
  PI.weak (pi_range1 hg hm (pad_cons ha pad_nil hs) hs) fun σ H R ⟨s, Z, rp, q, f⟩ =>
    ⟨s, fun ds k => (match ds with | [d] => ∃ j, d = .int j ∧ -(2 ^ 62) ≤ j ∧ j < 2 ^ 62 ∧ Z (rngD 0 j.toNat) k | _ => False), rp, q, fun ds k hq vs H1 r1 a1 e1 => by
      cases e1 with
      | nil => exact hq.elim
      | cons e1 e2 =>
        cases e2 with
        | cons _ _ => exact hq.elim
        | nil =>
          obtain ⟨j, hd, h1, h2, hz⟩ := hq
          subst hd
          cases e1.intE
          exact ⟨j, rfl, h1, h2, f _ k hz _ H1 r1 a1 Yl.range⟩⟩
theorem pid_r2 {a b : Expr} {t u : DE} {p pos : Pos} (hm : X.mg "range" = none) (ha : PE X a (LE c t)) (hb : PE X b (LE c u)) (hg : Gl X "range" := by rfl) (hs : starEach [a, b] X.env = [(false, eval a X.env), (false, eval b X.env)] := by rfl) (hs2 : starEach [b] X.env = [(false, eval b X.env)] := by rfl) :
    PI X tg (.Call (.Name "range" p) [a, b] [] pos) (LI c (iR2 t u)) :=
  PI.weak (pi_range2 hg hm (pad_cons ha (pad_cons hb pad_nil hs2) (by rw [hs, hs2])) hs hs2) fun σ H R ⟨s, Z, rp, q, f⟩ =>
    ⟨s, fun ds k => (match ds with | [d, e] => ∃ i j, d = .int i ∧ e = .int j ∧ (-(2 ^ 62) ≤ i ∧ i < 2 ^ 62 ∧ -(2 ^ 62) ≤ j ∧ j < 2 ^ 62) ∧ Z (rngD i (j - i).toNat) k | _ => False), rp, q, fun ds k hq vs H1 r1 a1 e1 => by
      cases e1 with
      | nil => exact hq.elim
      | cons e1 e2 =>
        cases e2 with
        | nil => exact hq.elim
        | cons e2 e3 =>
          cases e3 with
          | cons _ _ => exact hq.elim
          | nil =>
            obtain ⟨i, j, hd, he, h1, hz⟩ := hq
            subst hd he
            cases e1.intE
            cases e2.intE
            exact ⟨i, j, rfl, h1, f _ k hz _ H1 r1 a1 Yl.range⟩⟩
abbrev iZp (t u : DE) : DI := fun s Q => t s fun d k => u (s.at k) fun e k' => ∃ ds es, d = .tup ds ∧ e = .tup es ∧ Q (pairD ds es) k'
theorem pid_zip (hK : c.K = X.K) {e e2 : Expr} {t u : DE} {p pos tpos : Pos} {elts : List Expr} {kk : Nat} (hm : X.mg "zip" = none) (h : PE X e (LE c t)) (h' : PE X e2 (LE c u)) (hg : Gl X "zip" := by rfl)
    (hs : starEach [e, e2] X.env = (false, eval e X.env) :: starEach [e2] X.env := by rfl) (hs2 : starEach [e2] X.env = (false, eval e2 X.env) :: starEach [] X.env := by rfl) (hpl : (backTo pos (starEach [e2] X.env)).any (·.1) = false := by rfl) :
    PI X (.Tuple elts kk tpos) (.Call (.Name "zip" p) [e, e2] [] pos) (LI c (iZp t u)) :=
  PI.weak (RZ.pi_zipA hg hm (pad_cons h (pad_cons h' pad_nil hs2) hs) hs hpl) fun σ H R ⟨s, Z, rp, q, f⟩ =>
    ⟨s, fun ds k => (match ds with | [d, e] => ∃ ds es, d = .tup ds ∧ e = .tup es ∧ Z (pairD ds es) k | _ => False), rp, q, fun ds k hq vs H1 r1 a1 e1 => by
      cases e1 with
      | nil => exact hq.elim
      | cons e1 e2 =>
        cases e2 with
        | nil => exact hq.elim
        | cons e2 e3 =>
          cases e3 with
          | cons _ _ => exact hq.elim
          | nil =>
            obtain ⟨i, j, hd, he, hz⟩ := hq
            subst hd he
            obtain ⟨a, vs, rfl, h1, r⟩ := e1.tupE
            obtain ⟨b, us, rfl, h2, r'⟩ := e2.tupE
            exact ⟨a, b, vs, us, rfl, .inr ⟨hK ▸ (wo_sub _ _).st h1, hK ▸ (wo_sub _ _).st h2, f _ k hz _ H1 r1 a1 (Yl.zipT hK h1 r h2 r')⟩⟩⟩
end
end DL
namespace DL
open PySem L2
open PySem.W (Frag)
abbrev S.put (s : S) (i : Nat) (x : Sl) : S := { s with sl := s.sl.set i x }
theorem get_set_cases {α : Type} {l : List α} {i j : Nat} {x y : α} (h : (l.set i x)[j]? = some y) : (i = j ∧ y = x ∧ j < l.length) ∨ (i ≠ j ∧ l[j]? = some y) := by
  by_cases e : i = j
  · subst e
    by_cases hl : i < l.length
    · rw [List.getElem?_set_self hl] at h
      exact .inl ⟨rfl, (Option.some.inj h).symm, hl⟩
    · rw [List.getElem?_eq_none (by rw [List.length_set]; omega)] at h
      cases h
  · rw [List.getElem?_set_ne e] at h
    exact .inr ⟨e, h⟩
theorem Rep.put {c : C} {s : S} {σ : L2.St} {H : Hp} {i : Nat} {v : V} {x : Sl} (r : Rep c s σ H) (h : SlOk c s.X H (some (some v)) x) (ha : ∀ p ds, x = .own p ds → ∀ j q es, s.sl[j]? = some (.own q es) → j ≠ i → p ≠ q) : Rep c (s.put i x) (σ.set i (some v)) H := by
  refine ⟨r.sub, r.old, r.x0, r.xm, r.xs, r.m, fun j y e => ?_, fun j k p q ds es e1 e2 ne => ?_, by rw [List.length_set, List.length_set]; exact r.len, r.tb, r.xt⟩
  · rcases get_set_cases e with ⟨rfl, rfl, hl⟩ | ⟨ne, e⟩
    · rw [List.getElem?_set_self (by rw [← r.len]; exact hl)]
      exact h
    · rw [List.getElem?_set_ne ne]
      exact r.slot j y e
  · rcases get_set_cases e1 with ⟨rfl, e1, _⟩ | ⟨n1, e1⟩
    · rcases get_set_cases e2 with ⟨rfl, _, _⟩ | ⟨n2, e2⟩
      · exact absurd rfl ne
      · exact ha p ds e1.symm k q es e2 (fun z => n2 z.symm)
    · rcases get_set_cases e2 with ⟨rfl, e2, _⟩ | ⟨n2, e2⟩
      · exact fun z => ha q es e2.symm j p ds e1 (fun z => n1 z.symm) z.symm
      · exact r.apart j k p q ds es e1 e2 ne
theorem Rep.putD {c : C} {s : S} {σ : L2.St} {H : Hp} {i : Nat} {v : V} {d : D} (r : Rep c s σ H) (h : Rl c.K (c.hid s.X H) v d) : Rep c (s.put i (.dat d)) (σ.set i (some v)) H := r.put ⟨v, rfl, h⟩ fun p ds e => nomatch e
theorem Rep.wipe1 {c : C} {s : S} {σ : L2.St} {H : Hp} {i : Nat} (r : Rep c s σ H) : Rep c (s.put i .no) (σ.set i none) H := by
  refine ⟨r.sub, r.old, r.x0, r.xm, r.xs, r.m, fun j y e => ?_, fun j k p q ds es e1 e2 ne => ?_, by rw [List.length_set, List.length_set]; exact r.len, r.tb, r.xt⟩
  · rcases get_set_cases e with ⟨rfl, rfl, hl⟩ | ⟨ne, e⟩
    · trivial
    · rw [List.getElem?_set_ne ne]
      exact r.slot j y e
  · rcases get_set_cases e1 with ⟨rfl, e1, _⟩ | ⟨n1, e1⟩
    · cases e1
    · rcases get_set_cases e2 with ⟨rfl, e2, _⟩ | ⟨n2, e2⟩
      · cases e2
      · exact r.apart j k p q ds es e1 e2 ne
@[reducible] def S.wipe (s : S) : List Nat → S
  | [] => s
  | v :: vs => (s.wipe vs).put v .no
theorem S.wipe_X (s : S) : ∀ vs, (s.wipe vs).X = s.X ∧ (s.wipe vs).k = s.k
  | [] => ⟨rfl, rfl⟩
  | v :: vs => s.wipe_X vs
theorem Rep.wipe {c : C} {s : S} {σ : L2.St} {H : Hp} (r : Rep c s σ H) : ∀ vs, Rep c (s.wipe vs) (L2.wipe σ vs) H
  | [] => r
  | v :: vs => (r.wipe vs).wipe1
abbrev DG := D → S → (S → Prop) → Prop
abbrev DGs := List D → S → (S → Prop) → Prop
def LG (c : C) (ts : List Nat) (t : DG) : TG := fun v σ H Q => ∃ s R d, Rep c s σ H ∧ Rl c.K (c.hid s.X H) v d ∧ t d s R ∧ ∀ s', R s' → ∀ σ' H', Rep c s' σ' H' → AdvE c s.X H H' → s'.X = s.X → (∀ j, j ∉ ts → σ'[j]? = σ[j]?) → σ'.length = σ.length → Q σ' H'
def LGs (c : C) (ts : List Nat) (t : DGs) : TGs := fun v σ H Q => ∃ s R d, Rep c s σ H ∧ RlA c.K (c.hid s.X H) v d ∧ t d s R ∧ ∀ s', R s' → ∀ σ' H', Rep c s' σ' H' → AdvE c s.X H H' → s'.X = s.X → (∀ j, j ∉ ts → σ'[j]? = σ[j]?) → σ'.length = σ.length → Q σ' H'
abbrev dgN (i : Nat) : DG := fun d s Q => Q (s.put i (.dat d))
abbrev dgNil : DGs := fun ds s Q => ds = [] ∧ Q s
abbrev dgCons (t : DG) (u : DGs) : DGs := fun ds s Q => match ds with | d :: r => t d s fun s' => u r s' Q | [] => False
abbrev dgTup (n : Nat) (t : DGs) : DG := fun d s Q => match d with | .tup ds => ds.length = n ∧ t ds s Q | _ => False
section
variable {X : Cx} {c : C} {pos : Pos}
theorem PG.weak {tg : Expr} {t t' : TG} (h : PG X tg t) (w : ∀ v σ H Q, t' v σ H Q → t v σ H Q) : PG X tg t' := ⟨fun p s σ H v u Q I r q => h.run p s σ H v u Q I r (w _ _ _ _ q)⟩
theorem PGs.weak {tg : List Expr} {t t' : TGs} (h : PGs X tg t) (w : ∀ v σ H Q, t' v σ H Q → t v σ H Q) : PGs X tg t' := ⟨fun p s σ H v u Q I r q => h.run p s σ H v u Q I r (w _ _ _ _ q)⟩
theorem pgd_name (i : Nat) {x : PySem.Str} (hN : X.N.Nodup) (hi : X.N[i]? = some x := by rfl) (hx : Loc X.env.scope x := by first | exact Or.inl rfl | exact Or.inr rfl) (hf : X.fn x = true ∨ X.env.scope.names.lookup x = some .local := by first | exact .inl rfl | exact .inr rfl) : PG X (.Name x pos) (LG c [i] (dgN i)) :=
  PG.weak (pg_name hN hi hx hf) fun v σ H Q ⟨s, R, d, rp, e, q, f⟩ => f _ q _ H (rp.putD e) AdvE.refl rfl (fun j hj => List.getElem?_set_ne (fun z => hj (by simp [z]))) (List.length_set ..)
theorem pgds_nil : PGs X [] (LGs c [] dgNil) := PGs.weak pgs_nil fun v σ H Q ⟨s, R, d, rp, e, ⟨q1, q2⟩, f⟩ => by
  subst q1
  cases e
  exact ⟨rfl, f _ q2 _ H rp AdvE.refl rfl (fun _ _ => rfl) rfl⟩
theorem pgds_cons {e : Expr} {es : List Expr} {ts us : List Nat} {t : DG} {u : DGs} (h1 : PG X e (LG c ts t)) (h2 : PGs X es (LGs c us u)) (hs : (assignEach (e :: es) X.env).map (·.2) = assign e X.env :: (assignEach es X.env).map (·.2) := by rfl) : PGs X (e :: es) (LGs c (ts ++ us) (dgCons t u)) :=
  PGs.weak (pgs_cons h1 h2 hs) fun vs σ H Q ⟨s, R, ds, rp, r, q, f⟩ => by
    cases r with
    | nil => exact q.elim
    | cons r1 rr =>
      refine ⟨_, _, rfl, s, _, _, rp, r1, q, fun s1 q1 σ1 H1 rp1 a1 x1 k1 l1 => ?_⟩
      refine ⟨s1, _, _, rp1, ?_, q1, fun s2 q2 σ2 H2 rp2 a2 x2 k2 l2 => f s2 q2 σ2 H2 rp2 (a1.trans (x1 ▸ a2)) (x2.trans x1) (fun j hj => ?_) (l2.trans l1)⟩
      · rw [x1]; exact rr.mono a1.sub
      · rw [k2 j fun z => hj (List.mem_append_right _ z), k1 j fun z => hj (List.mem_append_left _ z)]
theorem pgd_tup (hK : c.K = X.K) (hc : X.calm = true) {es : List Expr} {kk : Nat} {ts : List Nat} {t : DGs} {n : Nat} (h : PGs X es (LGs c ts t)) (hn : (assignEach es X.env).length = n := by rfl) (hst : (assignEach es X.env).findIdx? (·.1) = none := by rfl) : PG X (.Tuple es kk pos) (LG c ts (dgTup n t)) :=
  PG.weak (pg_tup hc h hn hst) fun v σ H Q ⟨s, R, d, rp, r, q, f⟩ => by
    cases d <;> first | exact q.elim | skip
    obtain ⟨a, vs, rfl, h1, r1⟩ := r.tupE
    exact ⟨a, vs, rfl, hK ▸ (wo_sub _ _).st h1, r1.len.trans q.1, s, R, _, rp, r1, q.2, f⟩
end
abbrev S.own (s : S) (p : Addr) (k : Nat) : S := { s with X := p :: s.X, k := k }
structure NewL (c : C) (s : S) (σ : L2.St) (H : Hp) (p : Addr) (k : Nat) (ds : List D) (H' : Hp) : Prop where
  rep : Rep c (s.own p k) σ H'
  sub : Sub (c.hid s.X H) (c.hid (p :: s.X) H')
  own : ∀ a ∈ s.X, H' a = H a
  out : p ∉ s.X
  out0 : p ∉ c.X0
  new : c.H0 p = none
  vals : ∃ vs, H' p = some (.lst vs) ∧ RlA c.K (c.hid (p :: s.X) H') vs ds
def LF (c : C) (t : DA) : TE := fun σ H Q => ∃ s R, Rep c s σ H ∧ t s R ∧ ∀ ds k, R ds k → ∀ p H', NewL c s σ H p k ds H' → Q (.ref p) H'
abbrev dFr (t : DA) : DE := fun s Q => t s fun ds k => Q (.lst ds) k
theorem hid_cons (c : C) (p : Addr) (X : List Addr) (H : Hp) : Sub (c.hid (p :: X) H) (c.hid X H) := wo_more fun a h => by
  rcases List.mem_append.mp h with h | h
  · exact List.mem_append_left _ h
  · exact List.mem_append_right _ (List.mem_cons_of_mem _ h)
theorem Rep.nofree {c : C} {s : S} {σ : L2.St} {H : Hp} {p : Addr} (r : Rep c s σ H) (hp : H p = none) : p ∉ s.X ∧ p ∉ Ml c.M ∧ p ∉ c.X0 ∧ c.H0 p = none := by
  have h1 : p ∉ s.X := fun z => r.xs p z hp
  have h2 : p ∉ Ml c.M := fun z => r.m.there p z hp
  have h3 : p ∉ c.X0 := fun z => h1 (r.x0 p z)
  refine ⟨h1, h2, h3, ?_⟩
  cases e : c.H0 p with
  | none => rfl
  | some o =>
    by_cases t : NoTb o
    · have q := r.sub p o (wo_of (by intro z; rcases List.mem_append.mp z with z | z; exact h2 z; exact h3 z) e t)
      rw [(wo_ne q).2] at hp
      cases hp
    · exfalso
      refine t fun ps z => ?_
      subst z
      obtain ⟨qs, q⟩ := r.tb.tbl p ps e
      rw [hp] at q
      cases q
theorem Rep.hide {c : C} {s : S} {σ : L2.St} {H : Hp} {p : Addr} {o : HO} (r : Rep c s σ H) (hp : H p = none) (ht : NoTb o := by intro _ z; cases z) : Rep c (s.own p s.k) σ (upd H p o) ∧ Sub (c.hid s.X H) (c.hid (p :: s.X) (upd H p o)) := by
  obtain ⟨n1, n2, n3, n4⟩ := r.nofree hp
  have sb : Sub (c.hid s.X H) (c.hid (p :: s.X) (upd H p o)) := fun a u e => by
    obtain ⟨n, e⟩ := wo_ne e
    have np : a ≠ p := ne_of_none e hp
    refine wo_of (fun z => ?_) (by rw [upd_ne np]; exact e)
    rcases List.mem_append.mp z with z | z
    · exact n (List.mem_append_left _ z)
    · rcases List.mem_cons.mp z with z | z
      · exact np z
      · exact n (List.mem_append_right _ z)
  have eq : ∀ a, H a ≠ none → upd H p o a = H a := fun a h => upd_ne fun z => h (z ▸ hp)
  refine ⟨⟨r.sub.trans sb, fun a ha hm hn => ?_, fun a ha => List.mem_cons_of_mem _ (r.x0 a ha), fun a ha => ?_, fun a ha => ?_, r.m.eq (fun a ha hn => eq a hn) (.new hp), fun i x e => ?_, r.apart, r.len, r.tb.trans (.new hp), fun a ha => (List.mem_cons.mp ha).elim (fun z => by rw [z, upd_same]; exact fun ps e => ht ps (Option.some.inj e)) fun z => by rw [eq a (r.xs a z)]; exact r.xt a z⟩, sb⟩
  · rw [eq a (r.xs a (r.x0 a ha))]; exact r.old a ha hm hn
  · rcases List.mem_cons.mp ha with z | z
    · rw [z]; exact n2
    · exact r.xm a z
  · rcases List.mem_cons.mp ha with z | z
    · rw [z, upd_same]; simp
    · rw [eq a (r.xs a z)]; exact r.xs a z
  · have q := r.slot i x e
    cases x with
    | no => trivial
    | dat d =>
      obtain ⟨v, e, h⟩ := q
      exact ⟨v, e, h.mono sb⟩
    | own w ds =>
      obtain ⟨e, h1, h2, h3, vs, h4, h5⟩ := q
      exact ⟨e, List.mem_cons_of_mem _ h1, h2, h3, vs, by rw [eq w (r.xs w h1)]; exact h4, h5.mono sb⟩
    | mst => exact q
    | kds N Z => exact q
    | scr ns =>
      obtain ⟨v, e, h⟩ := q
      exact ⟨v, e, sb.sl h⟩
theorem Rep.show {c : C} {s : S} {σ : L2.St} {H : Hp} {p : Addr} {k : Nat} (r : Rep c (s.own p k) σ H) (hp : p ∉ s.X) (h0 : p ∉ c.X0) (hs : ∀ (i : Nat) (ds : List D), s.sl[i]? ≠ some (.own p ds)) : Rep c (s.at k) σ H := by
  have sb := hid_cons c p s.X H
  refine ⟨r.sub.trans sb, r.old, fun a ha => ?_, fun a ha => r.xm a (List.mem_cons_of_mem _ ha), fun a ha => r.xs a (List.mem_cons_of_mem _ ha), r.m, fun i x e => ?_, r.apart, r.len, r.tb, fun a ha => r.xt a (List.mem_cons_of_mem _ ha)⟩
  · rcases List.mem_cons.mp (r.x0 a ha) with z | z
    · exact absurd (z ▸ ha) h0
    · exact z
  · have q := r.slot i x e
    cases x with
    | no => trivial
    | dat d =>
      obtain ⟨v, e, h⟩ := q
      exact ⟨v, e, h.mono sb⟩
    | own w ds =>
      obtain ⟨e', h1, h2, h3, vs, h4, h5⟩ := q
      refine ⟨e', ?_, h2, h3, vs, h4, h5.mono sb⟩
      rcases List.mem_cons.mp h1 with z | z
      · exact absurd (z ▸ e) (hs i ds)
      · exact z
    | mst => exact q
    | kds N Z => exact q
    | scr ns =>
      obtain ⟨v, e, h⟩ := q
      exact ⟨v, e, sb.sl h⟩
theorem Rep.noslot {c : C} {s : S} {σ : L2.St} {H : Hp} {p : Addr} (r : Rep c s σ H) (hp : p ∉ s.X) (i : Nat) (ds : List D) : s.sl[i]? ≠ some (.own p ds) := fun e => hp (r.slot i _ e).2.1
section
variable {X : Cx} {c : C}
theorem LF.data {t : DA} {σ : L2.St} {H : Hp} {Q : VK} (h : LE c (dFr t) σ H Q) : LF c t σ H Q := by
  obtain ⟨s, R, rp, q, f⟩ := h
  refine ⟨s, _, rp, q, fun ds k hR p H' n => ?_⟩
  have sb := hid_cons c p s.X H'
  obtain ⟨vs, h1, h2⟩ := n.vals
  refine f _ k hR _ H' (n.rep.show n.out n.out0 (fun i es => rp.noslot n.out i es)) ⟨n.sub.trans sb, n.own⟩ (.lst (wo_of ?_ h1) (h2.mono sb))
  intro z
  rcases List.mem_append.mp z with z | z
  · exact n.rep.xm p List.mem_cons_self z
  · exact n.out z
theorem pd_fr {e : Expr} {t : DA} (h : PE X e (LF c t)) : PE X e (LE c (dFr t)) := h.weak fun σ H Q q => LF.data q
theorem NewL.mk' {s : S} {σ : L2.St} {H H1 : Hp} {k : Nat} {ds : List D} {vs : List V} {p : Addr} (r : Rep c (s.at k) σ H1) (a : AdvE c s.X H H1) (e : RlA c.K (c.hid s.X H1) vs ds) (hp : H1 p = none) : NewL c s σ H p k ds (upd H1 p (.lst vs)) := by
  obtain ⟨n1, n2, n3, n4⟩ := r.nofree hp
  have h := r.hide (o := .lst vs) hp
  exact ⟨h.1, a.sub.trans h.2, fun x hx => by rw [upd_ne (fun z => n1 (show p ∈ s.X by rw [← z]; exact hx))]; exact a.own x hx, n1, n3, n4, vs, upd_same, e.mono h.2⟩
abbrev dLs (t : DA) : DA := fun s Q => t s fun ds k => ds.length ≤ lim ∧ Q ds k
theorem pdf_lst {es : List Expr} {pos : Pos} {t : DA} (h : PA X es (LA c t)) : PE X (.List es pos) (LF c (dLs t)) :=
  (pe_lst h).weak fun σ H Q ⟨s, R, rp, q, f⟩ => ⟨s, _, rp, q, fun ds k ⟨hl, hR⟩ vs H1 r1 a1 e1 => ⟨by rw [e1.len]; exact lim_le hl, fun p hp => f ds k hR p _ (NewL.mk' r1 a1 e1 hp)⟩⟩
end
end DL
namespace DL
open PySem L2
open PySem.W (Frag)
abbrev dLc (it : DI) (g : DG) (tt : DT) (te : DE) (vs : List Nat) : DA := fun s Q => it s fun items k0 => items.length ≤ lim ∧ ∀ p, p ∉ s.X → ∃ Inv : Nat → List D → Nat → Prop, Inv 0 [] k0 ∧
  (∀ i d acc k, items[i]? = some d → Inv i acc k → acc.length ≤ i → g d (((s.own p k).wipe vs)) fun s2 => tt s2 fun b k2 => if b = true then te (s2.at k2) fun y k3 => Inv (i + 1) (acc ++ [y]) k3 else Inv (i + 1) acc k2) ∧
  ∀ acc k, Inv items.length acc k → acc.length ≤ items.length → Q acc k
abbrev dY : DT := fun s Q => Q true s.k
theorem wipe_ext {vs : List Nat} : ∀ {σ τ : L2.St}, σ.length = τ.length → (∀ j, j ∉ vs → σ[j]? = τ[j]?) → wipe σ vs = wipe τ vs := by
  have get : ∀ (vs : List Nat) (σ : L2.St) (j : Nat), (wipe σ vs)[j]? = if j ∈ vs then (if j < σ.length then some none else none) else σ[j]? := by
    intro vs
    induction vs with
    | nil => intro σ j; simp [wipe]
    | cons v r ih =>
      intro σ j
      show ((wipe σ r).set v none)[j]? = _
      by_cases e : v = j
      · subst e
        by_cases hl : v < σ.length
        · rw [List.getElem?_set_self (by rw [wipe_length]; exact hl)]
          simp [hl]
        · rw [List.getElem?_eq_none (by rw [List.length_set, wipe_length]; omega)]
          simp [hl]
      · rw [List.getElem?_set_ne e, ih]
        have : j ≠ v := fun z => e z.symm
        simp [this]
  intro σ τ hl h
  refine List.ext_getElem? fun j => ?_
  rw [get, get]
  by_cases hj : j ∈ vs
  · simp [hj, hl]
  · simp [hj, h j hj]
theorem pts_none {X : Cx} {c : C} : PTs X [] (LT c dY) := ⟨fun pins s σ H Q I ⟨st, R, rp, q, f⟩ => pts_nil.run pins s σ H Q I (f _ _ q H rp AdvE.refl)⟩
theorem ptsd_one {X : Cx} {c : C} {e : Expr} {t : DT} (h : PT X e (LT c t)) : PTs X [e] (LT c t) := pts_one h
theorem lc_imp {c : C} {own : List (PySem.Str × Nat)} {wi : DI} {g : DG} {tt : DT} {te : DE} {ts : List Nat} (hts : ∀ j ∈ ts, j ∈ own.map (·.2)) (σ : L2.St) (H : Hp) (Q : VK) (h : LF c (dLc wi g tt te (own.map (·.2))) σ H Q) :
    tLc (LI c wi) (LG c ts g) (LT c tt) (LE c te) (own.map (·.2)) σ H Q := by
    obtain ⟨s, R, rp, q, f⟩ := h
    refine ⟨s, _, rp, q, fun items k0 hz J H1 r1 a1 yl D hD => ?_⟩
    obtain ⟨hl, hz⟩ := hz
    obtain ⟨n1, n2, n3, n4⟩ := r1.nofree hD
    obtain ⟨Inv, i0, turn, fin⟩ := hz D n1
    have hid0 := r1.hide (o := .lst []) hD
    -- the state at turn i: D holds the values of acc
    refine ⟨fun i m H' => m = items.length - i ∧ i ≤ items.length ∧ ∃ acc vs k, Inv i acc k ∧ acc.length ≤ i ∧ H' D = some (.lst vs) ∧ Rep c (s.own D k) σ H' ∧ Sub (c.hid s.X H1) (c.hid (D :: s.X) H') ∧ (∀ a ∈ s.X, H' a = H1 a) ∧ RlA c.K (c.hid (D :: s.X) H') vs acc,
      ⟨items.length, by simp, Nat.zero_le _, [], [], k0, i0, Nat.le_refl _, upd_same, hid0.1, hid0.2, fun a ha => upd_ne fun z => n1 (show D ∈ s.X by rw [← z]; exact ha), .nil⟩, ?_⟩
    rintro i m H' ⟨rfl, hi', acc, vs, k, hI, hlen, hD', rp', sb, ow, ra⟩
    obtain ⟨yl1, yl2⟩ := yl i (s.own D k) σ H' rp' sb
    by_cases hlt : i < items.length
    · obtain ⟨d, hd⟩ : ∃ d, items[i]? = some d := ⟨items[i], by simp [hlt]⟩
      obtain ⟨go, yd⟩ := yl2 d hd
      refine .inr ⟨go, fun H'' => ∃ acc vs k, Inv (i + 1) acc k ∧ acc.length ≤ i + 1 ∧ H'' D = some (.lst vs) ∧ Rep c (s.own D k) σ H'' ∧ Sub (c.hid s.X H1) (c.hid (D :: s.X) H'') ∧ (∀ a ∈ s.X, H'' a = H1 a) ∧ RlA c.K (c.hid (D :: s.X) H'') vs acc,
        fun H'' ⟨acc, vs, k, h⟩ => ⟨items.length - (i + 1), by omega, rfl, hlt, acc, vs, k, h⟩, fun x H2 hy => ?_⟩
      obtain ⟨r2, a2, e2⟩ := yd x H2 hy
      have xw : ((s.own D k).wipe (own.map (·.2))).X = D :: s.X := ((s.own D k).wipe_X _).1
      refine ⟨(s.own D k).wipe (own.map (·.2)), _, d, r2.wipe _, by rw [xw]; exact e2, turn i d acc k hd hI hlen, fun s3 h3 σ3 H3 r3 a3 x3 k3 l3 => ?_⟩
      have x3' : s3.X = D :: s.X := x3.trans xw
      have a3' : AdvE c (D :: s.X) H2 H3 := xw ▸ a3
      have we : wipe σ3 (own.map (·.2)) = wipe σ (own.map (·.2)) := by
        have q1 : wipe σ3 (own.map (·.2)) = wipe (wipe σ (own.map (·.2))) (own.map (·.2)) := wipe_ext l3 fun j hj => k3 j fun z => hj (hts j z)
        rw [q1]
        refine wipe_ext (wipe_length _ _) fun j hj => ?_
        have := @wipe_ext (own.map (·.2))
        -- outside the own slots nothing is wiped
        have aux : ∀ (vs : List Nat), (∀ v ∈ vs, v ∈ own.map (·.2)) → (wipe σ vs)[j]? = σ[j]? := by
          intro vs
          induction vs with
          | nil => intro _; rfl
          | cons v r ih =>
            intro hv
            show ((wipe σ r).set v none)[j]? = _
            rw [List.getElem?_set_ne (fun z => hj (show j ∈ own.map (·.2) by rw [← z]; exact hv v List.mem_cons_self)), ih fun w hw => hv w (List.mem_cons_of_mem _ hw)]
        exact aux _ fun _ h => h
      refine ⟨we, ?_⟩
      -- back to the frame's slots: what the block knows of σ3 is not asked any more
      have back : ∀ {k' : Nat} {H4 : Hp}, Rep c (s3.at k') σ3 H4 → AdvE c (D :: s.X) H3 H4 → Rep c (s.own D k') σ H4 := fun {k' H4} r4 a4 => by
        have st : Sub (c.hid (D :: s.X) H') (c.hid (D :: s.X) H4) := (a2.sub.trans a3'.sub).trans a4.sub
        exact rp'.step (k := k') st (fun a ha _ => ((a4.own a ha).trans (a3'.own a ha)).trans (a2.own a ha)) r4.m r4.tb
      refine ⟨s3, _, r3, h3, fun b k4 h4 H4 r4 a4 => ?_⟩
      have a4' : AdvE c (D :: s.X) H3 H4 := x3' ▸ a4
      have D4 : H4 D = some (.lst vs) := by rw [a4'.own D List.mem_cons_self, a3'.own D List.mem_cons_self, a2.own D List.mem_cons_self]; exact hD'
      have st4 : Sub (c.hid (D :: s.X) H') (c.hid (D :: s.X) H4) := (a2.sub.trans a3'.sub).trans a4'.sub
      have ow4 : ∀ a ∈ D :: s.X, H4 a = H' a := fun a ha => ((a4'.own a ha).trans (a3'.own a ha)).trans (a2.own a ha)
      cases b with
      | false =>
        have h4 : Inv (i + 1) acc k4 := h4
        exact iteF ⟨acc, vs, k4, h4, by omega, D4, back r4 a4', sb.trans st4, fun a ha => (ow4 a (List.mem_cons_of_mem _ ha)).trans (ow a ha), ra.mono st4⟩
      | true =>
        have h4 : te (s3.at k4) fun y k3 => Inv (i + 1) (acc ++ [y]) k3 := h4
        refine iteT ⟨s3.at k4, _, r4, h4, fun y k5 h5 v5 H5 r5 a5 e5 => ?_⟩
        have a5' : AdvE c (D :: s.X) H4 H5 := x3' ▸ a5
        have D5 : H5 D = some (.lst vs) := by rw [a5'.own D List.mem_cons_self]; exact D4
        have st5 : Sub (c.hid (D :: s.X) H') (c.hid (D :: s.X) H5) := st4.trans a5'.sub
        refine ⟨vs, D5, by rw [ra.len]; exact lim_lt (by omega), acc ++ [y], vs ++ [v5], k5, h5, by rw [List.length_append, List.length_singleton]; omega, upd_same, ?_, ?_, ?_, ?_⟩
        · have rr : Rep c (s.own D k5) σ H5 := back r5 ⟨a4'.sub.trans a5'.sub, fun a ha => (a5'.own a ha).trans (a4'.own a ha)⟩
          -- D's content is in no slot
          have no := fun i ds => rp.noslot n1 i ds
          refine ⟨rr.sub.trans (wo_mut (List.mem_append_right _ List.mem_cons_self)), fun a ha hm hn => ?_, rr.x0, rr.xm, fun a ha => ?_, rr.m.eq (fun a ha _ => upd_ne fun z => n2 (show D ∈ Ml c.M by rw [← z]; exact ha)) (.at_ D5), fun j x e => ?_, rr.apart, rr.len, rr.tb.trans (.at_ D5), fun a ha => by
            by_cases z : a = D
            · rw [z, upd_same]; exact fun _ e => by cases e
            · rw [upd_ne z]; exact rr.xt a ha⟩
          · rw [upd_ne fun z => n3 (show D ∈ c.X0 by rw [← z]; exact ha)]
            exact rr.old a ha hm hn
          · by_cases z : a = D
            · rw [z, upd_same]; simp
            · rw [upd_ne z]; exact rr.xs a ha
          · have q := rr.slot j x e
            have sm : Sub (c.hid (D :: s.X) H5) (c.hid (D :: s.X) (upd H5 D (.lst (vs ++ [v5])))) := wo_mut (List.mem_append_right _ List.mem_cons_self)
            cases x with
            | no => trivial
            | dat d =>
              obtain ⟨v, e, h⟩ := q
              exact ⟨v, e, h.mono sm⟩
            | own w ds =>
              obtain ⟨e', h1, h2, h3, ws, h4, h5⟩ := q
              have nw : w ≠ D := fun z => no j ds (z ▸ e)
              exact ⟨e', h1, h2, h3, ws, by rw [upd_ne nw]; exact h4, h5.mono sm⟩
            | mst => exact q
            | kds N Z => exact q
            | scr ns =>
              obtain ⟨v, e, h⟩ := q
              exact ⟨v, e, sm.sl h⟩
        · exact (sb.trans st5).trans (wo_mut (List.mem_append_right _ List.mem_cons_self))
        · intro a ha
          rw [upd_ne fun z => n1 (show D ∈ s.X by rw [← z]; exact ha), a5'.own a (List.mem_cons_of_mem _ ha), ow4 a (List.mem_cons_of_mem _ ha)]
          exact ow a ha
        · exact ((ra.mono st5).app (.cons (by rw [x3'] at e5; exact e5) .nil)).mono (wo_mut (List.mem_append_right _ List.mem_cons_self))
    · have e : i = items.length := by omega
      subst e
      exact .inl ⟨yl1 (Nat.le_refl _), f acc k (fin acc k hI hlen) D H' ⟨rp', a1.sub.trans sb, fun a ha => (ow a ha).trans (a1.own a ha), n1, n3, n4, vs, hD', ra⟩⟩
theorem pdf_lc {X : Cx} {c : C} {elt tg iter : Expr} {ifs : List Expr} {scope : Scope} {own : List (PySem.Str × Nat)} {pos : Pos} {wi : DI} {g : DG} {tt : DT} {te : DE} {ts : List Nat} (hc : X.calm = true) (hN : X.N.Nodup) (hi : PI X tg iter (LI c wi)) (ok : BlkOk X.N X.env.scope scope own)
    (hg : ∀ (s : Shared) (H : Hp) (C : Addr) (cl : List (PySem.Str × Addr)) (fp : List Addr), PG (X.blk s H scope (compEnvC scope cl C X.env) fp) tg (LG c ts g)) (ht : ∀ (s : Shared) (H : Hp) (C : Addr) (cl : List (PySem.Str × Addr)) (fp : List Addr), PTs (X.blk s H scope (compEnvC scope cl C X.env) fp) ifs (LT c tt))
    (he : ∀ (s : Shared) (H : Hp) (C : Addr) (cl : List (PySem.Str × Addr)) (fp : List Addr), PE (X.blk s H scope (compEnvC scope cl C X.env) fp) elt (LE c te)) (hts : ∀ j ∈ ts, j ∈ own.map (·.2) := by decide) (hs : ∀ x, foldedSetIterable iter X.env x = pure x := by intro _; rfl) :
    PE X (.ListComp elt [⟨tg, iter, ifs, 0⟩] scope pos) (LF c (dLc wi g tt te (own.map (·.2)))) :=
  (pe_lc hc hN hi ok hg ht he hs).weak fun σ H Q h => lc_imp hts σ H Q h
end DL
namespace DL
open PySem L2
open PySem.W (Frag)
structure DEnds where
  nx : S → Prop
  rt : D → Nat → Prop
  bk : S → Prop := fun _ => False
  ct : S → Prop := fun _ => False
abbrev DS := DEnds → S → Prop
def Adv' (c : C) (X : List Addr) (H : Hp) (X' : List Addr) (H' : Hp) : Prop := Sub (c.hid X H) (c.hid X' H')
structure Fin (c : C) (H' : Hp) (k : Nat) : Prop where
  sub : Sub (c.hid c.X0 c.H0) (c.hid c.X0 H')
  old : ∀ a ∈ c.X0, a ∉ Ml c.M → c.H0 a ≠ none → H' a = c.H0 a
  m : MAt c.M H' k
  tb : TbK c.H0 H'
structure Fits (c : C) (X : List Addr) (H : Hp) (DD : DEnds) (D : Ends) : Prop where
  nx : ∀ s' σ' H', Rep c s' σ' H' → Adv' c X H s'.X H' → DD.nx s' → D.nx σ' H'
  bk : ∀ s' σ' H', Rep c s' σ' H' → Adv' c X H s'.X H' → DD.bk s' → D.bk σ' H'
  ct : ∀ s' σ' H', Rep c s' σ' H' → Adv' c X H s'.X H' → DD.ct s' → D.ct σ' H'
  rt : ∀ d k v H', Fin c H' k → Rl c.K (c.hid c.X0 H') v d → DD.rt d k → D.rt v H'
def LS (c : C) (t : DS) : TS := fun D σ H => ∃ s DD, Rep c s σ H ∧ t DD s ∧ Fits c s.X H DD D
theorem Fits.on {c : C} {X X1 : List Addr} {H H1 : Hp} {DD : DEnds} {D : Ends} (f : Fits c X H DD D) (a : Adv' c X H X1 H1) : Fits c X1 H1 DD D :=
  ⟨fun s σ H' r b q => f.nx s σ H' r (a.trans b) q, fun s σ H' r b q => f.bk s σ H' r (a.trans b) q, fun s σ H' r b q => f.ct s σ H' r (a.trans b) q, f.rt⟩
theorem Rep.sub0 {c : C} {s : S} {σ : L2.St} {H : Hp} (r : Rep c s σ H) : Sub (c.hid s.X H) (c.hid c.X0 H) := wo_more fun a h => by
  rcases List.mem_append.mp h with h | h
  · exact List.mem_append_left _ h
  · exact List.mem_append_right _ (r.x0 a h)
theorem Rep.fin {c : C} {s : S} {σ : L2.St} {H : Hp} (r : Rep c s σ H) : Fin c H s.k := ⟨r.sub.trans r.sub0, r.old, r.m, r.tb⟩
abbrev dNext : DS := fun DD s => DD.nx s
abbrev dSeq (t u : DS) : DS := fun DD s => t { DD with nx := u DD } s
abbrev dSet (i : Nat) (t : DE) : DS := fun DD s => t s fun d k => DD.nx ((s.put i (.dat d)).at k)
abbrev dAsg (t : DE) (g : DG) : DS := fun DD s => t s fun d k => g d (s.at k) DD.nx
abbrev dSetO (i : Nat) (t : DA) : DS := fun DD s => t s fun ds k => ∀ p, p ∉ s.X → DD.nx ((s.own p k).put i (.own p ds))
@[reducible] def Sl.frz : Sl → Sl
  | .own _ ds => .dat (.lst ds)
  | x => x
abbrev dRet (t : DE) : DS := fun DD s => ∀ X, t ⟨X, s.sl.map Sl.frz, s.k⟩ fun d k => DD.rt d k
abbrev dIfS (c : DT) (t u : DS) : DS := fun DD s => c s fun b k => if b = true then t DD (s.at k) else u DD (s.at k)
abbrev dDrop (t : DE) : DS := fun DD s => t s fun _ k => DD.nx (s.at k)
abbrev dFor (it : DI) (g : DG) (body : DS) : DS := fun DD s => it s fun items k0 => ∃ Inv : Nat → S → Prop, Inv 0 (s.at k0) ∧
  (∀ i d s', items[i]? = some d → Inv i s' → g d s' fun s2 => body { DD with nx := Inv (i + 1), ct := Inv (i + 1), bk := DD.nx } s2) ∧ ∀ s', Inv items.length s' → DD.nx s'
abbrev dWhile (t : DT) (body : DS) : DS := fun DD s => ∃ Inv : Nat → S → Prop, (∃ m, Inv m s) ∧ ∀ m s', Inv m s' → t s' fun b k =>
  if b = true then body { DD with nx := fun s2 => ∃ m', m' < m ∧ Inv m' s2, ct := fun s2 => ∃ m', m' < m ∧ Inv m' s2, bk := DD.nx } (s'.at k) else DD.nx (s'.at k)
theorem Rep.frz {c : C} {s : S} {σ : L2.St} {H : Hp} (r : Rep c s σ H) : Rep c ⟨c.X0, s.sl.map Sl.frz, s.k⟩ σ H := by
  refine ⟨r.sub.trans r.sub0, r.old, fun a h => h, fun a h => r.xm a (r.x0 a h), fun a h => r.xs a (r.x0 a h), r.m, fun i x e => ?_, fun i j p q ds es e1 _ _ => ?_, by show (s.sl.map Sl.frz).length = _; rw [List.length_map]; exact r.len, r.tb, fun a h => r.xt a (r.x0 a h)⟩
  · have e : (s.sl.map Sl.frz)[i]? = some x := e
    rw [List.getElem?_map] at e
    cases h : s.sl[i]? with
    | none => rw [h] at e; cases e
    | some y =>
      rw [h] at e
      obtain rfl : Sl.frz y = x := Option.some.inj e
      have q := r.slot i y h
      cases y with
      | no => trivial
      | dat d =>
        obtain ⟨v, e, h⟩ := q
        exact ⟨v, e, h.mono r.sub0⟩
      | own p ds =>
        obtain ⟨e', h1, h2, h3, vs, h4, h5⟩ := q
        refine ⟨_, e', .lst (wo_of (fun z => ?_) h4) (h5.mono r.sub0)⟩
        rcases List.mem_append.mp z with z | z
        · exact r.xm p h1 z
        · exact h2 z
      | mst => exact q
      | kds N Z => exact q
      | scr ns =>
        obtain ⟨v, e, h⟩ := q
        exact ⟨v, e, r.sub0.sl h⟩
  · have e1 : (s.sl.map Sl.frz)[i]? = some (.own p ds) := e1
    rw [List.getElem?_map] at e1
    cases h : s.sl[i]? with
    | none => rw [h] at e1; cases e1
    | some y => rw [h] at e1; cases y <;> cases e1
section
variable {X : Cx} {c : C} {pos : Pos}
theorem psd_nil : PSs X [] (LS c dNext) := pss_nil.weak fun D σ H ⟨s, DD, rp, q, f⟩ => f.nx s σ H rp (Sub.refl _) q
theorem psd_cons {st : Stmt} {r : List Stmt} {t u : DS} (h1 : PS X st (LS c t)) (h2 : PSs X r (LS c u)) : PSs X (st :: r) (LS c (dSeq t u)) :=
  (pss_cons h1 h2).weak fun D σ H ⟨s, DD, rp, q, f⟩ => ⟨s, { DD with nx := u DD }, rp, q, ⟨fun s' σ' H' r' a q' => ⟨s', DD, r', q', f.on a⟩, f.bk, f.ct, f.rt⟩⟩
theorem psd_one {st : Stmt} {t : DS} (h1 : PS X st (LS c t)) : PSs X [st] (LS c t) := pss_one h1
theorem psd_never {st : Stmt} : PS X st (LS c (fun _ _ => False)) := ⟨fun _ _ _ _ _ _ ⟨_, _, _, q, _⟩ => q.elim⟩
theorem psd_set (i : Nat) {x : PySem.Str} {e : Expr} {t : DE} {pos' : Pos} (hN : X.N.Nodup) (he : PE X e (LE c t)) (hi : X.N[i]? = some x := by rfl) (hx : Loc X.env.scope x := by first | exact Or.inl rfl | exact Or.inr rfl) (hs : swapsWith e (some (.Name x pos')) pos.line X.env = pure false := by rfl) (hf : X.fn x = true ∨ X.env.scope.names.lookup x = some .local := by first | exact .inl rfl | exact .inr rfl) :
    PS X (.Assign [.Name x pos'] e pos) (LS c (dSet i t)) :=
  (ps_set hN hi hx he hs hf).weak fun D σ H ⟨s, DD, rp, q, f⟩ => ⟨s, _, rp, q, fun d k h v H1 r1 a1 e1 => f.nx _ _ H1 (r1.putD e1) a1.sub h⟩
theorem psd_asg {tg e : Expr} {t : DE} {g : DG} {ts : List Nat} (he : PE X e (LE c t)) (hg : PG X tg (LG c ts g)) (hs : swapsWithSole [tg] e pos.line X.env = pure false := by rfl) (hw : swappedStores [tg] e X.env = pure none := by rfl)
    (h1 : (assignEach [tg] X.env).map (·.2) = [assign tg X.env] := by rfl) : PS X (.Assign [tg] e pos) (LS c (dAsg t g)) :=
  (ps_asg he hg hs hw h1).weak fun D σ H ⟨s, DD, rp, q, f⟩ => ⟨s, _, rp, q, fun d k h v H1 r1 a1 e1 => ⟨s.at k, _, d, r1, e1, h, fun s2 q2 σ2 H2 r2 a2 x2 _ _ => f.nx s2 σ2 H2 r2 (a1.sub.trans (x2 ▸ a2.sub)) q2⟩⟩
theorem NewL.put {s : S} {σ : L2.St} {H : Hp} {p : Addr} {k : Nat} {ds : List D} {H' : Hp} (n : NewL c s σ H p k ds H') (rp : Rep c s σ H) (i : Nat) : Rep c ((s.own p k).put i (.own p ds)) (σ.set i (some (.ref p))) H' :=
  n.rep.put ⟨rfl, List.mem_cons_self, n.out0, n.new, n.vals⟩ fun q es e j q' es' e' _ => by
    cases e
    exact fun z => rp.noslot n.out j es' (z ▸ e')
theorem psd_setO (i : Nat) {x : PySem.Str} {e : Expr} {t : DA} {pos' : Pos} (how : c.ow.contains i = true) (hN : X.N.Nodup) (he : PE X e (LF c t)) (hi : X.N[i]? = some x := by rfl) (hx : Loc X.env.scope x := by first | exact Or.inl rfl | exact Or.inr rfl) (hs : swapsWith e (some (.Name x pos')) pos.line X.env = pure false := by rfl) (hf : X.fn x = true ∨ X.env.scope.names.lookup x = some .local := by first | exact .inl rfl | exact .inr rfl) :
    PS X (.Assign [.Name x pos'] e pos) (LS c (dSetO i t)) :=
  (ps_set hN hi hx he hs hf).weak fun D σ H ⟨s, DD, rp, q, f⟩ => ⟨s, _, rp, q, fun ds k h p H1 n => f.nx _ _ H1 (n.put rp i) n.sub (h p n.out)⟩
theorem psd_setLcO (i : Nat) {y : PySem.Str} {py : Pos} {elt tg iter : Expr} {ifs : List Expr} {scope : Scope} {own : List (PySem.Str × Nat)} {wi : DI} {g : DG} {tt : DT} {te : DE} {ts : List Nat} {lpos spos : Pos} (hc : X.calm = true) (hN : X.N.Nodup) (hi : PI X tg iter (LI c wi)) (ok : BlkOk X.N X.env.scope scope own)
    (hg : ∀ (s : Shared) (H : Hp) (C : Addr) (cl : List (PySem.Str × Addr)) (fp : List Addr), PG (X.blk s H scope (compEnvC scope cl C X.env) fp) tg (LG c ts g)) (ht : ∀ (s : Shared) (H : Hp) (C : Addr) (cl : List (PySem.Str × Addr)) (fp : List Addr), PTs (X.blk s H scope (compEnvC scope cl C X.env) fp) ifs (LT c tt))
    (he : ∀ (s : Shared) (H : Hp) (C : Addr) (cl : List (PySem.Str × Addr)) (fp : List Addr), PE (X.blk s H scope (compEnvC scope cl C X.env) fp) elt (LE c te)) (hy : X.N[i]? = some y := by rfl) (hyl : X.env.scope.names.lookup y = some .local := by rfl)
    (hsw : swapsWith (.ListComp elt [⟨tg, iter, ifs, 0⟩] scope lpos) (some (.Name y py)) spos.line X.env = pure true := by exact sw_true rfl rfl rfl (by decide +kernel)) (hts : ∀ j ∈ ts, j ∈ own.map (·.2) := by decide) (hs : ∀ x, foldedSetIterable iter X.env x = pure x := by intro _; rfl) :
    PS X (.Assign [.Name y py] (.ListComp elt [⟨tg, iter, ifs, 0⟩] scope lpos) spos) (LS c (dSetO i (dLc wi g tt te (own.map (·.2))))) :=
  (ps_setLc hc hN hy hyl hsw hi ok hg ht he hs).weak fun D σ H ⟨s, DD, rp, q, f⟩ => lc_imp hts σ H _ ⟨s, _, rp, q, fun ds k h p H1 n => f.nx _ _ H1 (n.put rp i) n.sub (h p n.out)⟩
theorem psd_ret {e : Expr} {t : DE} (he : PE X e (LE c t)) : PS X (.Return (some e) pos) (LS c (dRet t)) :=
  (ps_ret he).weak fun D σ H ⟨s, DD, rp, q, f⟩ => ⟨_, _, rp.frz, q c.X0, fun d k h v H1 r1 a1 e1 => f.rt d k v H1 r1.fin e1 h⟩
theorem psd_if {t : Expr} {a b : List Stmt} {tt : DT} {ta tb : DS} (ht : PT X t (LT c tt)) (ha : PSs X a (LS c ta)) (hb : PSs X b (LS c tb)) : PS X (.If t a b pos) (LS c (dIfS tt ta tb)) :=
  (ps_if ht ha hb).weak fun D σ H ⟨s, DD, rp, q, f⟩ => ⟨s, _, rp, q, fun x k h H1 r1 a1 => by
    cases x with
    | true => exact ⟨s.at k, DD, r1, h, f.on a1.sub⟩
    | false => exact ⟨s.at k, DD, r1, h, f.on a1.sub⟩⟩
theorem psd_expr {e : Expr} {t : DE} (he : PE X e (LE c t)) (hs : swapsWith e none pos.line X.env = pure false := by rfl) : PS X (.Expr e pos) (LS c (dDrop t)) :=
  (ps_expr he hs).weak fun D σ H ⟨s, DD, rp, q, f⟩ => ⟨s, _, rp, q, fun d k h v H1 r1 a1 e1 => f.nx _ σ H1 r1 a1.sub h⟩
theorem psd_for {tg iter : Expr} {body : List Stmt} {it : DI} {g : DG} {tb : DS} {ts : List Nat} (hp : PassesOwn (model X.prog X.w) X.A X.env X.xe) (hc : X.calm = true) (hi : PI X tg iter (LI c it)) (hg : PG X tg (LG c ts g)) (hb : PSs X body (LS c tb))
    (hs : ∀ x, foldedSetIterable iter X.env x = pure x := by intro _; rfl) : PS X (.For tg iter body [] pos) (LS c (dFor it g tb)) :=
  (ps_for hp hc hi hg hb hs).weak fun D σ H ⟨s, DD, rp, q, f⟩ => by
    refine ⟨s, _, rp, q, fun items k0 ⟨IV, i0, turn, fin⟩ J H1 r1 a1 yl => ?_⟩
    refine ⟨fun i m σ' H' => m = items.length - i ∧ i ≤ items.length ∧ ∃ s', IV i s' ∧ Rep c s' σ' H' ∧ Adv' c s.X H1 s'.X H', ⟨items.length, by simp, Nat.zero_le _, s.at k0, i0, r1, Sub.refl _⟩, ?_⟩
    rintro i m σ' H' ⟨rfl, hi', s', hI, rp', ad⟩
    obtain ⟨yl1, yl2⟩ := yl i s' σ' H' rp' ad
    by_cases hlt : i < items.length
    · obtain ⟨d, hd⟩ : ∃ d, items[i]? = some d := ⟨items[i], by simp [hlt]⟩
      obtain ⟨go, yd⟩ := yl2 d hd
      refine .inr ⟨go, fun σ2 H2 => ∃ s', IV (i + 1) s' ∧ Rep c s' σ2 H2 ∧ Adv' c s.X H1 s'.X H2, fun σ2 H2 ⟨s2, h⟩ => ⟨items.length - (i + 1), by omega, rfl, hlt, s2, h⟩, fun x H2 hy => ?_⟩
      obtain ⟨r2, a2, e2⟩ := yd x H2 hy
      refine ⟨s', _, d, r2, e2, turn i d s' hd hI, fun s3 h3 σ3 H3 r3 a3 x3 _ _ => ?_⟩
      have ad3 : Adv' c s.X H1 s3.X H3 := (ad.trans a2.sub).trans (x3 ▸ a3.sub)
      exact ⟨s3, _, r3, h3, ⟨fun s4 σ4 H4 r4 a4 h4 => ⟨s4, h4, r4, ad3.trans a4⟩, fun s4 σ4 H4 r4 a4 h4 => f.nx s4 σ4 H4 r4 (a1.sub.trans (ad3.trans a4)) h4, fun s4 σ4 H4 r4 a4 h4 => ⟨s4, h4, r4, ad3.trans a4⟩, f.rt⟩⟩
    · have e : i = items.length := by omega
      subst e
      exact .inl ⟨yl1 (Nat.le_refl _), f.nx s' σ' H' rp' (a1.sub.trans ad) (fin s' hI)⟩
theorem psd_while {t : Expr} {body : List Stmt} {tt : DT} {tb : DS} (hp : PassesOwn (model X.prog X.w) X.A X.env X.xe) (ht : PT X t (LT c tt)) (hb : PSs X body (LS c tb)) : PS X (.While t body [] pos) (LS c (dWhile tt tb)) :=
  (ps_while hp ht hb).weak fun D σ H ⟨s, DD, rp, ⟨IV, ⟨m0, i0⟩, turn⟩, f⟩ => by
    refine ⟨fun m σ' H' => ∃ s', IV m s' ∧ Rep c s' σ' H' ∧ Adv' c s.X H s'.X H', ⟨m0, s, i0, rp, Sub.refl _⟩, ?_⟩
    rintro m σ' H' ⟨s', hI, rp', ad⟩
    refine ⟨s', _, rp', turn m s' hI, fun b k h H1 r1 a1 => ?_⟩
    have ad1 : Adv' c s.X H s'.X H1 := ad.trans a1.sub
    cases b with
    | true =>
      refine iteT ⟨fun σ2 H2 => ∃ m', m' < m ∧ ∃ s2, IV m' s2 ∧ Rep c s2 σ2 H2 ∧ Adv' c s.X H s2.X H2, fun σ2 H2 h => h, s'.at k, _, r1, h, ?_⟩
      exact ⟨fun s4 σ4 H4 r4 a4 ⟨m', hm, h4⟩ => ⟨m', hm, s4, h4, r4, ad1.trans a4⟩, fun s4 σ4 H4 r4 a4 h4 => f.nx s4 σ4 H4 r4 (ad1.trans a4) h4, fun s4 σ4 H4 r4 a4 ⟨m', hm, h4⟩ => ⟨m', hm, s4, h4, r4, ad1.trans a4⟩, f.rt⟩
    | false => exact iteF (f.nx (s'.at k) σ' H1 r1 ad1 h)
end
end DL
namespace DL
open PySem L2
open PySem.W (Frag)
@[reducible] def S.seq (s : S) (i : Nat) : Option (List D) := match s.sl[i]? with
  | some (.own _ ds) => some ds
  | some (.dat d) => d.items
  | _ => none
theorem Rep.seq {c : C} {s : S} {σ : L2.St} {H : Hp} {i : Nat} {ds : List D} (r : Rep c s σ H) (h : s.seq i = some ds) : ∃ a vs, σ[i]? = some (some (.ref a)) ∧ (SqL c.K H a vs ∨ SqT c.K H a vs) ∧ RlA c.K (c.hid s.X H) vs ds := by
  unfold S.seq at h
  cases e : s.sl[i]? with
  | none => rw [e] at h; cases h
  | some x =>
    rw [e] at h
    have q := r.slot i x e
    cases x with
    | no => cases h
    | mst => cases h
    | kds N Z => cases h
    | scr ns => cases h
    | dat d =>
      obtain ⟨v, e1, h1⟩ := q
      obtain ⟨a, vs, rfl, h2, h3⟩ := h1.items h
      exact ⟨a, vs, e1, sq_all (wo_sub _ _) h2, h3⟩
    | own p es =>
      cases h
      obtain ⟨e1, _, _, _, vs, h4, h5⟩ := q
      exact ⟨p, vs, e1, .inl (SqL.of h4), h5⟩
abbrev dLenN (i : Nat) : DE := fun s Q => ∃ ds, s.seq i = some ds ∧ Q (.int ds.length) s.k
abbrev dIxN (i : Nat) (t : DE) : DE := fun s Q => ∃ ds, s.seq i = some ds ∧ t s fun d k => ∃ j e, d = .int j ∧ atI ds j = some e ∧ Q e k
abbrev dTupN (i : Nat) : DE := fun s Q => ∃ ds, s.seq i = some ds ∧ Q (.tup ds) s.k
theorem S.seq_kind {c : C} {s : S} {σ : L2.St} {H : Hp} {i : Nat} {ds : List D} (r : Rep c s σ H) (h : s.seq i = some ds) : (∃ a vs, σ[i]? = some (some (.ref a)) ∧ H a = some (.lst vs) ∧ RlA c.K (c.hid s.X H) vs ds) ∨ ∃ v, σ[i]? = some (some v) ∧ Rl c.K (c.hid s.X H) v (.tup ds) := by
  unfold S.seq at h
  cases e : s.sl[i]? with
  | none => rw [e] at h; cases h
  | some x =>
    rw [e] at h
    have q := r.slot i x e
    cases x with
    | no => cases h
    | mst => cases h
    | kds N Z => cases h
    | scr ns => cases h
    | dat d =>
      obtain ⟨v, e1, h1⟩ := q
      cases d <;> first | cases h | skip
      · obtain ⟨a, vs, rfl, h2, h3⟩ := h1.lstE
        exact .inl ⟨a, vs, e1, wo_sub _ _ _ _ h2, h3⟩
      · exact .inr ⟨v, e1, h1⟩
    | own p es =>
      cases h
      obtain ⟨e1, _, _, _, vs, h4, h5⟩ := q
      exact .inl ⟨p, vs, e1, h4, h5⟩
abbrev dLstN (i : Nat) : DA := fun s Q => ∃ ds, s.seq i = some ds ∧ Q ds s.k
section
variable {X : Cx} {c : C} {pos p : Pos}
theorem pd_lenN (hK : c.K = X.K) (hm : X.mg "len" = none) (i : Nat) {x : PySem.Str} {pn : Pos} (hN : X.N[i]? = some x := by rfl) (hv : Vis X.env.scope x := by first | exact Or.inl rfl | exact Or.inr (Or.inl rfl) | exact Or.inr (Or.inr rfl)) (hd : (x == ("__debug__" : PySem.Str)) = false := by decide) (hcd : (x == ("__classdict__" : PySem.Str)) = false := by decide)
    (hg : Gl X "len" := by rfl) (hs : starEach [Expr.Name x pn] X.env = (false, eval (Expr.Name x pn) X.env) :: starEach [] X.env := by rfl) (hp : (backTo pos (starEach [] X.env)).any (·.1) = false := by rfl) :
    PE X (.Call (.Name "len" p) [.Name x pn] [] pos) (LE c (dLenN i)) :=
  (pe_callB call_len_seq hg hm PySem.boot_len (pa_cons (pe_var hN hv hd hcd) pa_nil hs) (he := hs) (hpl := hp)).weak fun σ H Q ⟨s, R, rp, ⟨ds, h1, h2⟩, f⟩ => by
    obtain ⟨a, vs, e, h, r⟩ := rp.seq h1
    exact ⟨_, e, a, vs, rfl, hK ▸ h, by rw [r.len]; exact f _ _ h2 _ H rp AdvE.refl (.int _)⟩
theorem pd_ixN (hK : c.K = X.K) (i : Nat) {x : PySem.Str} {pn : Pos} {b : Expr} {t : DE} (hb : PE X b (LE c t)) (hN : X.N[i]? = some x := by rfl) (hv : Vis X.env.scope x := by first | exact Or.inl rfl | exact Or.inr (Or.inl rfl) | exact Or.inr (Or.inr rfl)) (hd : (x == ("__debug__" : PySem.Str)) = false := by decide) (hcd : (x == ("__classdict__" : PySem.Str)) = false := by decide) (hs : PlainIx b := by exact fun _ _ => rfl) :
    PE X (.Subscript (.Name x pn) b pos) (LE c (dIxN i t)) :=
  (pe_ix ix_seq (pe_var hN hv hd hcd) hb hs).weak fun σ H Q ⟨s, R, rp, ⟨ds, h2, q⟩, f⟩ => by
    obtain ⟨a0, _, e1, _⟩ := rp.seq h2
    refine ⟨_, e1, s, _, rp, q, fun d' k ⟨j, e', h3, h4, h5⟩ w H1 r1 a1 e2 => ?_⟩
    obtain ⟨a, vs, e3, h6, r6⟩ := Rep.seq (s := s.at k) r1 h2
    rw [e1] at e3
    cases e3
    subst h3
    cases e2.intE
    obtain ⟨u, h7, h8⟩ := at_rl r6 h4
    rcases h6 with h6 | h6
    · exact .inl ⟨_, vs, j, u, rfl, rfl, hK ▸ h6, h7, f _ k h5 _ H1 r1 a1 h8⟩
    · exact .inr (.inl ⟨_, vs, j, u, rfl, rfl, hK ▸ h6, h7, f _ k h5 _ H1 r1 a1 h8⟩)
theorem pd_tupN (hK : c.K = X.K) (hm : X.mg "tuple" = none) (i : Nat) {x : PySem.Str} {pn : Pos} (hN : X.N[i]? = some x := by rfl) (hv : Vis X.env.scope x := by first | exact Or.inl rfl | exact Or.inr (Or.inl rfl) | exact Or.inr (Or.inr rfl)) (hd : (x == ("__debug__" : PySem.Str)) = false := by decide) (hcd : (x == ("__classdict__" : PySem.Str)) = false := by decide)
    (hg : Gl X "tuple" := by rfl) (hs : starEach [Expr.Name x pn] X.env = (false, eval (Expr.Name x pn) X.env) :: starEach [] X.env := by rfl) :
    PE X (.Call (.Name "tuple" p) [.Name x pn] [] pos) (LE c (dTupN i)) :=
  (pe_tupleOf hg hm (pe_var hN hv hd hcd) hs).weak fun σ H Q ⟨s, R, rp, ⟨ds, h1, h2⟩, f⟩ => by
    rcases S.seq_kind rp h1 with ⟨a, vs, e, h, r⟩ | ⟨v, e, h⟩
    · refine ⟨_, e, .inl ⟨a, vs, rfl, SqL.of h, fun q hq => ?_⟩⟩
      have n := rp.new (o := .tup vs) hq
      exact f _ _ h2 _ _ n.1 n.2 (.tup (SqT.of (rp.at_new hq)) (r.mono n.2.sub))
    · obtain ⟨a, vs, rfl, h3, r⟩ := h.tupE
      exact ⟨_, e, .inr ⟨a, vs, rfl, hK ▸ (wo_sub _ _).st h3, f _ _ h2 _ H rp AdvE.refl h⟩⟩
theorem pdf_lstN (hK : c.K = X.K) (hm : X.mg "list" = none) (i : Nat) {x : PySem.Str} {pn : Pos} (hN : X.N[i]? = some x := by rfl) (hv : Vis X.env.scope x := by first | exact Or.inl rfl | exact Or.inr (Or.inl rfl) | exact Or.inr (Or.inr rfl)) (hd : (x == ("__debug__" : PySem.Str)) = false := by decide) (hcd : (x == ("__classdict__" : PySem.Str)) = false := by decide)
    (hg : Gl X "list" := by rfl) (hs : starEach [Expr.Name x pn] X.env = (false, eval (Expr.Name x pn) X.env) :: starEach [] X.env := by rfl) (hp : (backTo pos (starEach [] X.env)).any (·.1) = false := by rfl) :
    PE X (.Call (.Name "list" p) [.Name x pn] [] pos) (LF c (dLstN i)) :=
  (pe_callTy call_list_of hg hm PyProof.Rows.boot_list (pa_cons (pe_var hN hv hd hcd) pa_nil hs) (he := hs) (hpl := hp)).weak fun σ H Q ⟨s, R, rp, ⟨ds, h1, h2⟩, f⟩ => by
    obtain ⟨a, vs, e, h, r⟩ := rp.seq h1
    exact ⟨_, e, a, vs, rfl, hK ▸ h, fun q hq => f ds _ h2 q _ (NewL.mk' rp AdvE.refl r hq)⟩
end
end DL
namespace DL
open PySem L2
open PySem.W (Frag)
abbrev dLen (t : DE) : DE := fun s Q => t s fun d k => ∃ ds, d.items = some ds ∧ Q (.int ds.length) k
abbrev dTupOf (t : DE) : DE := fun s Q => t s fun d k => ∃ ds, d.items = some ds ∧ Q (.tup ds) k
abbrev dInt (t : DE) : DE := fun s Q => t s fun d k => ∃ i, d = .int i ∧ Q (.int i) k
abbrev dLr2 (t u : DE) : DA := fun s Q => t s fun d k => u (s.at k) fun e k' => ∃ i j, d = .int i ∧ e = .int j ∧ (-1000 ≤ i ∧ i ≤ 1000 ∧ -1000 ≤ j ∧ j ≤ 1000) ∧ Q (rngD i (j - i).toNat) k'
theorem rng_rl {K : Frag} {A : Hp} (a b : Int) : RlA K A (rgV a b) (rngD a (b - a).toNat) := by
  unfold rgV rngD
  generalize (List.range (b - a).toNat) = l
  induction l with
  | nil => exact .nil
  | cons i r ih => exact .cons (.int _) ih
section
variable {X : Cx} {c : C} {pos p : Pos}
theorem pd_len (hK : c.K = X.K) (hm : X.mg "len" = none) {e : Expr} {t : DE} (h : PE X e (LE c t)) (hg : Gl X "len" := by rfl) (hs : starEach [e] X.env = (false, eval e X.env) :: starEach [] X.env := by rfl) (hp : (backTo pos (starEach [] X.env)).any (·.1) = false := by rfl) :
    PE X (.Call (.Name "len" p) [e] [] pos) (LE c (dLen t)) :=
  (pe_callB call_len_seq hg hm PySem.boot_len (pa_cons h pa_nil hs) (he := hs) (hpl := hp)).weak fun σ H Q ⟨s, R, rp, q, f⟩ => ⟨s, _, rp, q, fun d k ⟨ds, h1, h2⟩ v H1 r1 a1 e1 => by
    obtain ⟨a, vs, rfl, h, r⟩ := e1.items h1
    exact ⟨a, vs, rfl, hK ▸ sq_all (wo_sub _ _) h, by rw [r.len]; exact f _ k h2 _ H1 r1 a1 (.int _)⟩⟩
theorem pd_tupOf (hK : c.K = X.K) (hm : X.mg "tuple" = none) {e : Expr} {t : DE} (h : PE X e (LE c t)) (hg : Gl X "tuple" := by rfl) (hs : starEach [e] X.env = (false, eval e X.env) :: starEach [] X.env := by rfl) :
    PE X (.Call (.Name "tuple" p) [e] [] pos) (LE c (dTupOf t)) :=
  (pe_tupleOf hg hm h hs).weak fun σ H Q ⟨s, R, rp, q, f⟩ => ⟨s, _, rp, q, fun d k ⟨ds, h1, h2⟩ v H1 r1 a1 e1 => by
    cases d <;> first | cases h1 | skip
    · obtain ⟨a, vs, rfl, h, r⟩ := e1.lstE
      refine .inl ⟨a, vs, rfl, SqL.of (wo_sub _ _ _ _ h), fun q hq => ?_⟩
      have n := r1.new (o := .tup vs) hq
      exact f _ _ h2 _ _ n.1 (a1.trans n.2) (.tup (SqT.of (r1.at_new hq)) (r.mono n.2.sub))
    · obtain ⟨a, vs, rfl, h, r⟩ := e1.tupE
      exact .inr ⟨a, vs, rfl, hK ▸ (wo_sub _ _).st h, f _ _ h2 _ H1 r1 a1 e1⟩⟩
theorem pd_int1 (hm : X.mg "int" = none) {e : Expr} {t : DE} (h : PE X e (LE c t)) (hg : Gl X "int" := by rfl) (hs : starEach [e] X.env = (false, eval e X.env) :: starEach [] X.env := by rfl) (hp : (backTo pos (starEach [] X.env)).any (·.1) = false := by rfl) :
    PE X (.Call (.Name "int" p) [e] [] pos) (LE c (dInt t)) :=
  (pe_callTy call_int1 hg hm PyProof.Rows.boot_int (pa_cons h pa_nil hs) (he := hs) (hpl := hp)).weak fun σ H Q ⟨s, R, rp, q, f⟩ => ⟨s, _, rp, q, fun d k ⟨i, h1, h2⟩ v H1 r1 a1 e1 => by
    subst h1
    exact .inl ⟨i, by rw [e1.intE], f _ k h2 _ H1 r1 a1 (.int _)⟩⟩
theorem pdf_lr2 (hc : X.calm = true) (hm : X.mg "list" = none) (hr : X.mg "range" = none) {e e' : Expr} {t u : DE} {p2 pos2 : Pos} (h : PE X e (LE c t)) (h' : PE X e' (LE c u)) (hg : Gl X "list" := by rfl) (hg2 : Gl X "range" := by rfl) (hs : starEach [e, e'] X.env = (false, eval e X.env) :: starEach [e'] X.env := by rfl) (hs2 : starEach [e'] X.env = (false, eval e' X.env) :: starEach [] X.env := by rfl)
    (hp : (backTo pos2 (starEach [e'] X.env)).any (·.1) = false := by rfl) (na : starEach [Expr.Call (.Name "range" p2) [e, e'] [] pos2] X.env = (false, eval (Expr.Call (.Name "range" p2) [e, e'] [] pos2) X.env) :: starEach [] X.env := by rfl) : PE X (.Call (.Name "list" p) [.Call (.Name "range" p2) [e, e'] [] pos2] [] pos) (LF c (dLr2 t u)) :=
  (pe_listRg hc hg hm (prg_2 hg2 hr h h' hs hs2 hp) na).weak fun σ H Q ⟨s, R, rp, q, f⟩ => ⟨s, _, rp, q, fun d k hd v H1 r1 a1 e1 => ⟨s.at k, _, r1, hd, fun d2 k2 ⟨i, j, h1, h2, ⟨b1, b2, b3, b4⟩, h4⟩ v2 H2 r2 a2 e2 => by
    subst h1 h2
    refine ⟨i, j, e1.intE, e2.intE, ⟨by omega, by omega, by omega, by omega, by omega⟩, fun q hq => f _ k2 h4 q _ (NewL.mk' r2 (a1.trans a2) (rng_rl i j) hq)⟩⟩⟩
end
end DL
namespace DL
open PySem L2
open PySem.W (Frag)
abbrev dApp (i : Nat) (t : DE) : DS := fun DD s => ∃ p ds, s.sl[i]? = some (.own p ds) ∧ t s fun d k => ds.length < lim ∧ DD.nx ((s.put i (.own p (ds ++ [d]))).at k)
abbrev dSix (i : Nat) (t u : DE) : DS := fun DD s => ∃ p ds, s.sl[i]? = some (.own p ds) ∧ u s fun d k => t (s.at k) fun j k' => ∃ z n, j = .int z ∧ ixN ds.length z = some n ∧ DD.nx ((s.put i (.own p (ds.set n d))).at k')
theorem Rep.mut {c : C} {s : S} {σ : L2.St} {H : Hp} {i : Nat} {p : Addr} {ds es : List D} {vs : List V} (r : Rep c s σ H) (h : s.sl[i]? = some (.own p ds)) (e : RlA c.K (c.hid s.X H) vs es) : Rep c (s.put i (.own p es)) σ (upd H p (.lst vs)) ∧ Sub (c.hid s.X H) (c.hid s.X (upd H p (.lst vs))) := by
  obtain ⟨e1, h1, h2, h3, ws, h4, h5⟩ := r.slot i _ h
  have sm : Sub (c.hid s.X H) (c.hid s.X (upd H p (.lst vs))) := wo_mut (List.mem_append_right _ h1)
  refine ⟨⟨r.sub.trans sm, fun a ha hm hn => ?_, r.x0, r.xm, fun a ha => ?_, r.m.eq (fun a ha _ => upd_ne fun z => r.xm p h1 (by rw [← z]; exact ha)) (.at_ h4), fun j x q => ?_, fun j k q w as bs q1 q2 ne => ?_, by rw [List.length_set]; exact r.len, r.tb.trans (.at_ h4), fun a ha => by
      by_cases z : a = p
      · rw [z, upd_same]; exact fun _ e => by cases e
      · rw [upd_ne z]; exact r.xt a ha⟩, sm⟩
  · rw [upd_ne fun z => h2 (by rw [← z]; exact ha)]
    exact r.old a ha hm hn
  · by_cases z : a = p
    · rw [z, upd_same]; simp
    · rw [upd_ne z]; exact r.xs a ha
  · rcases get_set_cases q with ⟨rfl, rfl, hl⟩ | ⟨ne, q⟩
    · exact ⟨e1, h1, h2, h3, vs, upd_same, e.mono sm⟩
    · have o := r.slot j x q
      cases x with
      | no => trivial
      | dat d =>
        obtain ⟨v, e, h⟩ := o
        exact ⟨v, e, h.mono sm⟩
      | own w as =>
        obtain ⟨q1, q2, q3, q4, us, q5, q6⟩ := o
        have nw : w ≠ p := r.apart j i w p as ds q h (fun z => ne z.symm)
        exact ⟨q1, q2, q3, q4, us, by rw [upd_ne nw]; exact q5, q6.mono sm⟩
      | mst => exact o
      | kds N Z => exact o
      | scr ns =>
        obtain ⟨v, e, h⟩ := o
        exact ⟨v, e, sm.sl h⟩
  · rcases get_set_cases q1 with ⟨rfl, q1, _⟩ | ⟨n1, q1⟩
    · cases q1
      rcases get_set_cases q2 with ⟨rfl, _, _⟩ | ⟨n2, q2⟩
      · exact absurd rfl ne
      · exact r.apart _ k _ w ds bs h q2 ne
    · rcases get_set_cases q2 with ⟨rfl, q2, _⟩ | ⟨n2, q2⟩
      · cases q2
        exact r.apart j _ q _ as ds q1 h ne
      · exact r.apart j k q w as bs q1 q2 ne
section
variable {X : Cx} {c : C} {pos : Pos}
theorem psd_app (i : Nat) {x : PySem.Str} {pn apos cpos : Pos} {e : Expr} {t : DE} (he : PE X e (LE c t)) (hN : X.N[i]? = some x := by rfl) (hv : Vis X.env.scope x := by first | exact Or.inl rfl | exact Or.inr (Or.inl rfl) | exact Or.inr (Or.inr rfl)) (hd : (x == ("__debug__" : PySem.Str)) = false := by decide) (hcd : (x == ("__classdict__" : PySem.Str)) = false := by decide)
    (hbase : attributeBase (Expr.Name x pn) "append" X.env (eval (Expr.Name x pn) X.env) = eval (Expr.Name x pn) X.env := by rfl)
    (hfew : ((backTo cpos (starEach (e :: []) X.env)).all (fun x => !x.1) && (backToKw cpos (keywordEach [] X.env)).all (fun x => x.1.isSome) && decide ((e :: []).length + ([] : List Keyword).length + (if ([] : List Keyword).isEmpty then 0 else 1) < 30)) = true := by rfl)
    (hline : (apos.endLine == cpos.line) = true := by rfl) (hs : starEach (e :: []) X.env = (false, eval e X.env) :: starEach [] X.env := by rfl) (hplain : (backTo cpos (starEach [] X.env)).any (·.1) = false := by rfl)
    (hsw : swapsWith (.Call (.Attribute (.Name x pn) "append" apos) [e] [] cpos) none pos.line X.env = pure false := by rfl) :
    PS X (.Expr (.Call (.Attribute (.Name x pn) "append" apos) [e] [] cpos) pos) (LS c (dApp i t)) :=
  (ps_expr (pe_bm PySem.F.plainAttrs_list PySem.F.slot_list_append PySem.F.type_list_append mt_append (pe_var hN hv hd hcd) (pa_cons he pa_nil hs) hbase hfew hline hs hplain) hsw).weak fun D σ H ⟨s, DD, rp, ⟨p, ds, h, q⟩, f⟩ => by
    obtain ⟨e1, h1, h2, h3, vs, h4, h5⟩ := rp.slot i _ h
    refine ⟨_, e1, .inl ⟨rfl, _, SqL.of h4⟩, s, _, rp, q, fun d k ⟨hl, hR⟩ v H1 r1 a1 e2 => ?_⟩
    have h6 : H1 p = some (.lst vs) := by rw [a1.own p h1]; exact h4
    refine ⟨p, vs, v, rfl, rfl, h6, by rw [h5.len]; exact lim_lt (Nat.le_of_lt hl), ?_⟩
    have m := Rep.mut (s := s.at k) r1 h ((h5.mono a1.sub).app (.cons e2 .nil))
    exact f.nx _ σ _ m.1 (a1.sub.trans m.2) hR
theorem psd_six (i : Nat) {x : PySem.Str} {pn p2 : Pos} {e1 e2 : Expr} {t u : DE} (h1 : PE X e1 (LE c t)) (h2 : PE X e2 (LE c u)) (hN : X.N[i]? = some x := by rfl) (hv : Vis X.env.scope x := by first | exact Or.inl rfl | exact Or.inr (Or.inl rfl) | exact Or.inr (Or.inr rfl)) (hd : (x == ("__debug__" : PySem.Str)) = false := by decide) (hcd : (x == ("__classdict__" : PySem.Str)) = false := by decide)
    (ha : ∀ v, assign (.Subscript (.Name x pn) e1 p2) X.env v = (do
      let ov ← holding [v] (eval (.Name x pn) X.env)
      let iv ← holding [v, ov] (eval e1 X.env)
      standAt p2
      holding [v, ov, iv] (setItem ov iv v)
      release [v, ov, iv] []) := by intro _; rfl)
    (hs : swapsWithSole [.Subscript (.Name x pn) e1 p2] e2 pos.line X.env = pure false := by rfl) (hw : swappedStores [.Subscript (.Name x pn) e1 p2] e2 X.env = pure none := by rfl)
    (hA : (assignEach [.Subscript (.Name x pn) e1 p2] X.env).map (·.2) = [assign (.Subscript (.Name x pn) e1 p2) X.env] := by rfl) :
    PS X (.Assign [.Subscript (.Name x pn) e1 p2] e2 pos) (LS c (dSix i t u)) :=
  (ps_asg h2 (pg_sub (pe_var hN hv hd hcd) h1 set_list ha) hs hw hA).weak fun D σ H ⟨s, DD, rp, ⟨p, ds, h, q⟩, f⟩ => by
    obtain ⟨g1, g2, g3, g4, vs, g5, g6⟩ := rp.slot i _ h
    refine ⟨s, _, rp, q, fun d k hd v H1 r1 a1 e3 => ⟨_, g1, s.at k, _, r1, hd, fun j k2 ⟨z, n, hj, hz, hR⟩ w H2 r2 a2 e4 => ?_⟩⟩
    subst hj
    have h6 : H2 p = some (.lst vs) := by rw [a2.own p g2, a1.own p g2]; exact g5
    refine ⟨p, vs, z, n, rfl, e4.intE, h6, by rw [g6.len]; exact hz, ?_⟩
    have m := Rep.mut (s := s.at k2) r2 h (RlA.set (e3.mono a2.sub) n ((g6.mono a1.sub).mono a2.sub))
    exact f.nx _ σ _ m.1 ((a1.sub.trans a2.sub).trans m.2) hR
end
inductive Vx where
  | dat (d : D) | own (p : Addr) (ds : List D)
abbrev DX := S → (List Vx → S → Prop) → Prop
def VxOk (c : C) (X : List Addr) (H : Hp) (v : V) : Vx → Prop
  | .dat d => Rl c.K (c.hid X H) v d
  | .own p ds => v = .ref p ∧ p ∈ X ∧ p ∉ c.X0 ∧ c.H0 p = none ∧ ∃ vs, H p = some (.lst vs) ∧ RlA c.K (c.hid X H) vs ds
@[reducible] def Vx.sl : Vx → Sl
  | .dat d => .dat d
  | .own p ds => .own p ds
def VxAp (sl : List Sl) : List Vx → Prop
  | [] => True
  | x :: r => (∀ p ds, x = .own p ds → (∀ (i : Nat) es, sl[i]? ≠ some (.own p es)) ∧ ∀ q es, Vx.own q es ∈ r → p ≠ q) ∧ VxAp sl r
inductive VxA (c : C) (X : List Addr) (H : Hp) : List V → List Vx → Prop
  | nil : VxA c X H [] []
  | cons {v : V} {vs : List V} {x : Vx} {xs : List Vx} : VxOk c X H v x → VxA c X H vs xs → VxA c X H (v :: vs) (x :: xs)
def LX (c : C) (t : DX) : TA := fun σ H Q => ∃ s R, Rep c s σ H ∧ t s R ∧ ∀ xs s', R xs s' → ∀ vs H', Rep c s' σ H' → Sub (c.hid s.X H) (c.hid s'.X H') → (∀ a ∈ s.X, H' a = H a) → (∀ a ∈ s.X, a ∈ s'.X) → s'.sl = s.sl → VxA c s'.X H' vs xs → (∀ p ds, Vx.own p ds ∈ xs → p ∉ s.X) → VxAp s.sl xs → Q vs H'
abbrev dxN : DX := fun s Q => Q [] s
abbrev dxD (t : DE) (u : DX) : DX := fun s Q => t s fun d k => u (s.at k) fun xs s' => Q (.dat d :: xs) s'
section
variable {X : Cx} {c : C}
theorem pax_nil : PA X [] (LX c dxN) := pa_nil.weak fun σ H Q ⟨s, R, rp, q, f⟩ => f [] s q [] H rp (Sub.refl _) (fun _ _ => rfl) (fun _ h => h) rfl .nil (fun _ _ h => nomatch h) trivial
theorem pax_dat {e : Expr} {es : List Expr} {t : DE} {u : DX} (ha : PE X e (LE c t)) (hr : PA X es (LX c u)) (hs : starEach (e :: es) X.env = (false, eval e X.env) :: starEach es X.env := by rfl) : PA X (e :: es) (LX c (dxD t u)) :=
  (pa_cons ha hr hs).weak fun σ H Q ⟨s, R, rp, q, f⟩ => ⟨s, _, rp, q, fun d k hd v H1 r1 a1 e1 => ⟨s.at k, _, r1, hd, fun xs s' hx vs H2 r2 sb ow xx sl vx out ap => by
    refine f (.dat d :: xs) s' hx (v :: vs) H2 r2 (a1.sub.trans sb) (fun a h => (ow a h).trans (a1.own a h)) xx sl (.cons (e1.mono sb) vx) (fun p ds h => ?_) ⟨fun p ds h => (nomatch h), ap⟩
    rcases List.mem_cons.mp h with h | h
    · cases h
    · exact out p ds h⟩⟩
theorem VxOk.slot {H : Hp} {X : List Addr} {v : V} {x : Vx} (h : VxOk c X H v x) : SlOk c X H (some (some v)) x.sl := by
  cases x with
  | dat d => exact ⟨v, rfl, h⟩
  | own p ds =>
    obtain ⟨rfl, h⟩ := h
    exact ⟨rfl, h⟩
abbrev dPar2 (i j : Nat) (t : DX) : DS := fun DD s => t s fun xs s' => match xs with | [x, y] => DD.nx ((s'.put i x.sl).put j y.sl) | _ => False
theorem put_no {s : S} {i : Nat} {x : Vx} {p : Addr} {es : List D} {j : Nat} (h : ∀ (i : Nat) es, s.sl[i]? ≠ some (.own p es)) (hx : ∀ ds, x ≠ .own p ds) : (s.put i x.sl).sl[j]? ≠ some (.own p es) := fun e => by
  rcases get_set_cases e with ⟨_, e, _⟩ | ⟨_, e⟩
  · cases x with
    | dat d => cases e
    | own q ds => cases e; exact hx es rfl
  · exact h j es e
theorem psd_par2 (i j : Nat) {x y : PySem.Str} {a b : Expr} {t : DX} {px py pt pos : Pos} {kt k2 pt2} (hc : X.calm = true) (hN : X.N.Nodup) (ha : PA X [a, b] (LX c t)) (hij : i ≠ j := by decide) (hi : X.N[i]? = some x := by rfl) (hj : X.N[j]? = some y := by rfl)
    (hx : X.env.scope.names.lookup x = some .local := by rfl) (hy : X.env.scope.names.lookup y = some .local := by rfl)
    (hw : swappedStores [.Tuple [.Name x px, .Name y py] kt pt] (.Tuple [a, b] k2 pt2) X.env = pure (some [x, y]) := by rfl)
    (hs : swapsWithSole [.Tuple [.Name x px, .Name y py] kt pt] (.Tuple [a, b] k2 pt2) pos.line X.env = pure false := by rfl) :
    PS X (.Assign [.Tuple [.Name x px, .Name y py] kt pt] (.Tuple [a, b] k2 pt2) pos) (LS c (dPar2 i j t)) :=
  (ps_par hc hN hi hj hij hx hy ha hw hs).weak fun D σ H ⟨s, DD, rp, q, f⟩ => ⟨s, _, rp, q, fun xs s' h vs H1 r1 sb ow xx sl vx out ap => by
    cases vx with
    | nil => exact h.elim
    | @cons _ _ x1 _ v1 vx =>
      cases vx with
      | nil => exact h.elim
      | @cons _ _ x2 _ v2 vx =>
        cases vx with
        | cons _ _ => exact h.elim
        | nil =>
          obtain ⟨ap1, ap2, _⟩ := ap
          refine ⟨_, _, rfl, f.nx _ _ H1 ((r1.put v1.slot fun p ds e j q es e' _ z => ?_).put v2.slot fun p ds e j q es e' _ z => ?_) sb h⟩
          · cases x1 with
            | dat d => cases e
            | own p1 ds1 =>
              cases e
              rw [sl] at e'
              exact (ap1 _ _ rfl).1 j es (z ▸ e')
          · cases x2 with
            | dat d => cases e
            | own p1 ds1 =>
              cases e
              refine put_no (s := s') (x := x1) (p := p) (fun i es => ?_) (fun es' e1 => ?_) (z ▸ e')
              · rw [sl]; exact (ap2 _ _ rfl).1 i es
              · subst e1
                exact (ap1 _ _ rfl).2 _ _ List.mem_cons_self rfl⟩
theorem VxOk.mono {H H' : Hp} {X : List Addr} {v : V} {x : Vx} (sb : Sub (c.hid X H) (c.hid X H')) (ow : ∀ a ∈ X, H' a = H a) (h : VxOk c X H v x) : VxOk c X H' v x := by
  cases x with
  | dat d => exact Rl.mono sb h
  | own p ds =>
    obtain ⟨h1, h2, h3, h4, vs, h5, h6⟩ := h
    exact ⟨h1, h2, h3, h4, vs, by rw [ow p h2]; exact h5, h6.mono sb⟩
end
end DL
namespace DL
open PySem L2
open PySem.W (Frag)
abbrev DSp := List D → Nat → (D → Nat → Prop) → Prop
structure Aft (K : Frag) (M : Option Mc) (X0 : List Addr) (H H' : Hp) (k : Nat) : Prop where
  sub : Sub (wo H (Ml M ++ X0)) (wo H' (Ml M ++ X0))
  old : ∀ a ∈ X0, H' a = H a
  m : MAt M H' k
  tb : TbK H H'
structure Ahd (K : Frag) (M : Option Mc) (X0 : List Addr) (H : Hp) (k : Nat) (ws : List V) (ds : List D) : Prop where
  xm : ∀ a ∈ X0, a ∉ Ml M
  xs : ∀ a ∈ X0, H a ≠ none
  m : MAt M H k
  args : RlA K (wo H (Ml M ++ X0)) ws ds
  xt : ∀ a ∈ X0, ∀ ps, H a ≠ some (.tbl ps)
def spD (K : Frag) (hm : Bool) (sp : DSp) : Sp := fun vs H Q _ => ∃ (M : Option Mc) (X0 : List Addr) (k : Nat) (ds : List D) (ws : List V) (R : D → Nat → Prop),
  (match hm with | true => ∃ m, (M = some m ∧ m.kd = none) ∧ vs = .ref m.pm :: ws | false => M = none ∧ vs = ws) ∧ Ahd K M X0 H k ws ds ∧ sp ds k R ∧
  ∀ d k', R d k' → ∀ v H', Aft K M X0 H H' k' → Rl K (wo H' (Ml M ++ X0)) v d → Q v H'
structure CalD (P : Program) (w : World) (K : Frag) (mg : PySem.Str → Option Value) (base : Heap) (k : Nat) (x : PySem.Str) (hm : Bool) (sp : DSp) : Prop where
  ex : ∃ f fd ps, FnOk P w K mg base CX0 k f fd ps (spD K hm sp) ∧ mg x = some (.ref f) ∧ PySem.W.keepIn K (.ref f) = true ∧ Binds K fd ps []
abbrev dCall (sp : DSp) (t : DA) : DE := fun s Q => t s fun ds k => sp ds 0 fun d _ => Q d k
abbrev dCallM (i : Nat) (sp : DSp) (t : DA) : DE := fun s Q => s.sl[i]? = some .mst ∧ t s fun ds k => sp ds k Q
theorem Rep.allHid {c : C} {s : S} {σ : L2.St} {H : Hp} (r : Rep c s σ H) : ∀ a ∈ Ml c.M ++ s.X, H a ≠ none := fun a h => by
  rcases List.mem_append.mp h with h | h
  · exact r.m.there a h
  · exact r.xs a h
theorem MAt.noTb {m : Option Mc} {H : Hp} {k : Nat} (h : MAt m H k) : ∀ a ∈ Ml m, ∀ ps, H a ≠ some (.tbl ps) := by
  cases m with
  | none => intro a ha; simp [Ml] at ha
  | some m =>
    cases ek : m.kd with
    | none =>
      obtain ⟨cs, gs, n, o, q⟩ := h.dr ek
      intro a ha ps
      simp [Ml] at ha
      rcases ha with rfl | rfl | rfl
      · rw [o.hm]; intro e; cases e
      · rw [o.hc]; intro e; cases e
      · rw [o.hg]; intro e; cases e
    | some kn =>
      obtain ⟨L, o⟩ := h.kn ek
      intro a ha ps
      simp [Ml] at ha
      have : a = m.pm := by
        rcases ha with rfl | rfl | rfl
        · rfl
        · exact o.pc
        · exact o.pg
      rw [this, o.hp]; intro e; cases e
theorem Rep.allTb {c : C} {s : S} {σ : L2.St} {H : Hp} (r : Rep c s σ H) : ∀ a ∈ Ml c.M ++ s.X, ∀ ps, H a ≠ some (.tbl ps) := fun a h => (List.mem_append.mp h).elim (r.m.noTb a) (r.xt a)
theorem Rep.after {c : C} {s : S} {σ : L2.St} {H H' : Hp} {k : Nat} (r : Rep c s σ H) (a : Aft c.K none (Ml c.M ++ s.X) H H' k) : Rep c s σ H' ∧ AdvE c s.X H H' := by
  have h : Sub (c.hid s.X H) (c.hid s.X H') := a.sub
  refine ⟨r.step (k := s.k) h (fun b hb _ => a.old b (List.mem_append_right _ hb)) (r.m.eq (fun b hb _ => a.old b (List.mem_append_left _ hb)) a.tb) (r.tb.trans a.tb), h, fun b hb => a.old b (List.mem_append_right _ hb)⟩
theorem Rep.afterM {c : C} {s : S} {σ : L2.St} {H H' : Hp} {k : Nat} (r : Rep c s σ H) (a : Aft c.K c.M s.X H H' k) : Rep c (s.at k) σ H' ∧ AdvE c s.X H H' :=
  ⟨r.step a.sub (fun b hb _ => a.old b hb) a.m (r.tb.trans a.tb), a.sub, a.old⟩
section
variable {X : Cx} {c : C} {k j : Nat} {x : PySem.Str} {sp : DSp} {p pos : Pos}
theorem pd_call (hK : c.K = X.K) (F : CalD X.prog X.w X.K X.mg X.base k x false sp) (hr : Room j X.A) (hk : k ≤ j) {e : Expr} {es : List Expr} {t : DA} (ha : PA X (e :: es) (LA c t)) (hg : Gl X x := by rfl) (hdb : (x == ("__debug__" : PySem.Str)) = false := by decide) (he : starEach (e :: es) X.env = (false, eval e X.env) :: starEach es X.env := by rfl) (hpl : (backTo pos (starEach es X.env)).any (·.1) = false := by rfl) :
    PE X (.Call (.Name x p) (e :: es) [] pos) (LE c (dCall sp t)) := by
  obtain ⟨f, fd, ps, G, hm, kp, b⟩ := F.ex
  refine (pe_call G (hr.mono hk) hg hm kp b .nil pass0 ha hdb he hpl).weak fun σ H Q ⟨s, R, rp, q, fn⟩ => ⟨s, _, rp, q, fun ds k1 h1 vs H1 r1 a1 e1 => ?_⟩
  refine ⟨none, Ml c.M ++ s.X, 0, ds, vs, _, ⟨rfl, by rw [List.append_nil]⟩, ⟨fun a _ => by simp [Ml], r1.allHid, trivial, hK ▸ e1, r1.allTb⟩, h1, fun d k' hR v H' af er => ?_⟩
  have z := Rep.after (s := s.at k1) r1 ⟨af.sub, af.old, af.m, af.tb⟩
  exact fn d k1 hR v H' z.1 (a1.trans z.2) (hK ▸ er)
theorem pd_callM (hK : c.K = X.K) (F : CalD X.prog X.w X.K X.mg X.base k x true sp) (hr : Room j X.A) (hk : k ≤ j) (i : Nat) {y : PySem.Str} {pn : Pos} {es : List Expr} {t : DA} (ha : PA X es (LA c t)) (hN : X.N[i]? = some y := by rfl) (hv : Vis X.env.scope y := by first | exact Or.inl rfl | exact Or.inr (Or.inl rfl) | exact Or.inr (Or.inr rfl)) (hd : (y == ("__debug__" : PySem.Str)) = false := by decide) (hcd : (y == ("__classdict__" : PySem.Str)) = false := by decide)
    (hg : Gl X x := by rfl) (hdb : (x == ("__debug__" : PySem.Str)) = false := by decide) (he : starEach (Expr.Name y pn :: es) X.env = (false, eval (Expr.Name y pn) X.env) :: starEach es X.env := by rfl) (hpl : (backTo pos (starEach es X.env)).any (·.1) = false := by rfl) :
    PE X (.Call (.Name x p) (.Name y pn :: es) [] pos) (LE c (dCallM i sp t)) := by
  obtain ⟨f, fd, ps, G, hm, kp, b⟩ := F.ex
  refine (pe_call G (hr.mono hk) hg hm kp b .nil pass0 (pa_cons (pe_var hN hv hd hcd) ha he) hdb he hpl).weak fun σ H Q ⟨s, R, rp, ⟨hs, q⟩, fn⟩ => ?_
  obtain ⟨m, hM, e0⟩ := rp.slot i _ hs
  refine ⟨_, e0, s, _, rp, q, fun ds k1 h1 vs H1 r1 a1 e1 => ?_⟩
  refine ⟨c.M, s.X, k1, ds, vs, _, ⟨m, hM, by rw [List.append_nil]⟩, ⟨r1.xm, r1.xs, r1.m, hK ▸ e1, r1.xt⟩, h1, fun d k' hR v H' af er => ?_⟩
  have z := Rep.afterM (s := s.at k1) r1 ⟨af.sub, af.old, af.m, af.tb⟩
  exact fn d k' hR v H' z.1 (a1.trans z.2) (hK ▸ er)
end
@[reducible] def init (hm : Bool) (n : Nat) (ds : List D) : List Sl := (match hm with | true => [Sl.mst] | false => []) ++ ds.map .dat ++ List.replicate (n - (ds.length + (match hm with | true => 1 | false => 0))) .no
theorem start_get {N : List PySem.Str} {vs : List V} {i : Nat} {v : V} (h : vs[i]? = some v) : (L2.start N vs)[i]? = some (some v) := by
  unfold L2.start
  rw [List.getElem?_append_left (by rw [List.length_map]; exact (List.getElem?_eq_some_iff.mp h).1), List.getElem?_map, h]
  rfl
theorem init_rep {c : C} {hm : Bool} {N : List PySem.Str} {vs ws : List V} {ds : List D} {H : Hp} {k : Nat} (hc : c.H0 = H) (h : match hm with | true => ∃ m, (c.M = some m ∧ m.kd = none) ∧ vs = .ref m.pm :: ws | false => c.M = none ∧ vs = ws)
    (a : Ahd c.K c.M c.X0 H k ws ds) (hl : vs.length ≤ N.length) : Rep c ⟨c.X0, init hm N.length ds, k⟩ (L2.start N vs) H := by
  subst hc
  have len := a.args.len
  have dat : ∀ (i : Nat) (o : Nat) (x : Sl), (∀ (j : Nat) (w : V), ws[j]? = some w → vs[j + o]? = some w) → (ds.map Sl.dat ++ List.replicate (N.length - (ds.length + o)) Sl.no)[i]? = some x → SlOk c c.X0 c.H0 (L2.start N vs)[i + o]? x := fun i o x hw e => by
    by_cases hi : i < ds.length
    · rw [List.getElem?_append_left (by rw [List.length_map]; exact hi), List.getElem?_map] at e
      obtain ⟨d, hd⟩ : ∃ d, ds[i]? = some d := ⟨ds[i], by simp [hi]⟩
      rw [hd] at e
      cases e
      obtain ⟨w, h1, h2⟩ := a.args.getD hd
      exact ⟨w, start_get (hw i w h1), h2⟩
    · rw [List.getElem?_append_right (by rw [List.length_map]; omega), List.getElem?_replicate] at e
      split at e
      · cases e; trivial
      · cases e
  refine ⟨Sub.refl _, fun _ _ _ _ => rfl, fun _ h => h, a.xm, a.xs, a.m, fun i x e => ?_, fun i j p q as bs e1 _ _ => ?_, ?_, .refl, a.xt⟩
  · cases hm with
    | false =>
      obtain ⟨_, rfl⟩ := h
      exact dat i 0 x (fun j w h => h) (by simpa [init] using e)
    | true =>
      obtain ⟨m, hM, rfl⟩ := h
      cases i with
      | zero =>
        have e' : Sl.mst = x := Option.some.inj e
        subst e'
        exact ⟨m, hM, start_get rfl⟩
      | succ i => exact dat i 1 x (fun j w h => h) (by simpa [init] using e)
  · have e1 : (init hm N.length ds)[i]? = some (.own p as) := e1
    unfold init at e1
    have mem := List.mem_of_getElem? e1
    cases hm <;> simp at mem
  · show (init hm N.length ds).length = (L2.start N vs).length
    unfold init L2.start
    cases hm with
    | false =>
      obtain ⟨_, rfl⟩ := h
      simp
      omega
    | true =>
      obtain ⟨m, hM, rfl⟩ := h
      simp at hl
      simp
      omega
section
variable {P : Program} {w : World} {K : Frag} {mg : PySem.Str → Option Value} {base : Heap}
theorem okD {x qual : PySem.Str} {st : Stmt} {f : Addr} {fd : FuncData} {N ps : List PySem.Str} {k : Nat} {hm : Bool} {sp : DSp} (F : Fun K x qual st f fd) (Sc : FnScope N ps (defScope st)) (ow : List Nat)
    (len : ∀ ds k R, sp ds k R → ds.length + (match hm with | true => 1 | false => 0) = ps.length)
    (body : ∃ t : DS, (∀ (cdv : Value) (A : Around) (outer : List Env) (s : Shared) (H : Hp) (E : XK) (M : Option Mc) (X0 : List Addr), Room k (A.deeper (PyProof.Rows.envOfC qual (defScope st) s.heap.objs.size f cdv)) →
        PSs (cxOf CX0 P w K mg base N qual (defScope st) f cdv A outer s H E).nox (defBody st) (LS ⟨K, M, X0, H, ow⟩ t)) ∧
      ∀ X ds k R, sp ds k R → t { nx := fun s => R .non s.k, rt := R } ⟨X, init hm N.length ds, k⟩) :
    FnOk P w K mg base CX0 (k + 1) f fd ps (spD K hm sp) := by
  obtain ⟨t, hb, hr⟩ := body
  have lens : ∀ vs H Q E, spD K hm sp vs H Q E → vs.length = ps.length := fun vs H Q E ⟨M, X0, k, ds, ws, R, h1, a, h2, h3⟩ => by
    have q := len ds k R h2
    have l := a.args.len
    cases hm with
    | false =>
      obtain ⟨_, rfl⟩ := h1
      rw [l]
      exact q
    | true =>
      obtain ⟨m, _, rfl⟩ := h1
      rw [List.length_cons, l]
      exact q
  refine F.ok Sc lens fun cdv A outer s H vs Q E room h => ?_
  have hl := lens _ _ _ _ h
  obtain ⟨M, X0, k', ds, ws, R, h1, a, h2, h3⟩ := h
  have hpl : ps.length ≤ N.length := by have := congrArg List.length Sc.pre; rw [List.length_take] at this; omega
  refine ⟨LS ⟨K, M, X0, H, ow⟩ t, hb cdv A outer s H E M X0 room, ⟨X0, init hm N.length ds, k'⟩, _, init_rep (c := ⟨K, M, X0, H, ow⟩) rfl h1 a (by omega), hr X0 ds k' R h2, ?_⟩
  have fin : ∀ d k v H', Fin ⟨K, M, X0, H, ow⟩ H' k → Rl K (wo H' (Ml M ++ X0)) v d → R d k → Q v H' := fun d k v H' fi e r => h3 d k r v H' ⟨fi.sub, fun b hb => fi.old b hb (a.xm b hb) (a.xs b hb), fi.m, fi.tb⟩ e
  exact ⟨fun s' σ' H' r _ q => fin .non s'.k .non H' r.fin .non q, fun _ _ _ _ _ q => q, fun _ _ _ _ _ q => q, fun d k v H' fi e r => fin d k v H' fi e r⟩
end
end DL
namespace DL
open PySem L2
open PySem.W (Frag)
inductive KvA (K : Frag) (H : Hp) : List (Int × V) → List (Int × D) → Prop
  | nil : KvA K H [] []
  | cons {k : Int} {v : V} {vs : List (Int × V)} {d : D} {ds : List (Int × D)} : Rl K H v d → KvA K H vs ds → KvA K H ((k, v) :: vs) ((k, d) :: ds)
def lookI {α : Type} (l : List (Int × α)) (i : Int) : Option α := (l.find? fun p => decide (p.1 = i)).map (·.2)
theorem KvA.look {K : Frag} {H : Hp} : ∀ {vs : List (Int × V)} {ds : List (Int × D)} {i : Int}, KvA K H vs ds → (∀ d, lookI ds i = some d → ∃ v, lookI vs i = some v ∧ Rl K H v d) ∧ (lookI ds i = none → lookI vs i = none)
  | _, _, i, .nil => ⟨fun d h => (by cases h), fun _ => rfl⟩
  | _, _, i, .cons (k := k) (v := v) (d := e) r rr => by
    have ih := KvA.look (i := i) rr
    unfold lookI at ih ⊢
    by_cases hk : k = i
    · subst hk
      simp only [List.find?_cons, decide_true, Option.map_some, Option.some.injEq]
      exact ⟨fun d h => (by subst h; exact ⟨v, rfl, r⟩), fun h => (by cases h)⟩
    · simp only [List.find?_cons, decide_eq_false hk]
      exact ih
structure KdAt (P : Program) (w : World) (K : Frag) (mg : PySem.Str → Option Value) (x : PySem.Str) (kvs : List (Int × D)) : Prop where
  ex : ∃ (a : Addr) (us : List (Int × Value)) (vs : List (Int × V)), mg x = some (.ref a) ∧ (a == sysModules) = false ∧ (∀ h : Heap, K.In h → h.DictOf (intKind P w) a us) ∧ KV vs us ∧ ∀ H, KvA K H vs kvs
theorem KV.look {vs : List (Int × V)} {us : List (Int × Value)} {i : Int} (r : KV vs us) : RelO (lookI vs i) (valueAt us i) := by
  have h : RelO ((vs.find? fun kv => decide (kv.1 = i)).map (·.2)) (valueAt us i) := by
    unfold valueAt
    induction r with
    | nil => trivial
    | @cons p q _ _ h t ih =>
      obtain ⟨a, b⟩ := p
      obtain ⟨a', b'⟩ := q
      obtain ⟨h1, h2⟩ := h
      have h1 : a = a' := h1
      subst h1
      by_cases e : a = i
      · simp only [List.find?_cons, decide_eq_true e]
        exact h2
      · simp only [List.find?_cons, decide_eq_false e]
        exact ih
  exact h
abbrev dKd (kvs : List (Int × D)) (t : DE) : DE := fun s Q => t s fun d k => ∃ i e, d = .int i ∧ lookI kvs i = some e ∧ Q e k
abbrev dKdIn (kvs : List (Int × D)) (t : DE) : DE := fun s Q => t s fun d k => ∃ i, d = .int i ∧ Q (.bl (lookI kvs i).isSome) k
section
variable {X : Cx} {c : C} {pos : Pos} {x : PySem.Str} {kvs : List (Int × D)}
theorem pd_kd (hK : c.K = X.K) (h : KdAt X.prog X.w X.K X.mg x kvs) {pn : Pos} {i : Expr} {t : DE} (ht : PE X i (LE c t)) (hs : NoSl i := by exact fun _ _ => rfl) (hg : Gl X x := by rfl) (hdb : (x == ("__debug__" : PySem.Str)) = false := by decide) :
    PE X (.Subscript (.Name x pn) i pos) (LE c (dKd kvs t)) := by
  obtain ⟨a, us, vs, hm, low, hd, kv, rl⟩ := h.ex
  refine ⟨fun pins s σ H Q I ⟨st, R, rp, q, f⟩ => ?_⟩
  refine subD_of PySem.F.slot_dict_getitem.lookup hs ?_
  refine ld_glob I hg hm ?_ hdb
  refine thn (ht.run pins s σ H _ I ⟨st, _, rp, q, fun d k h v H1 r1 a1 e1 => (⟨d, k, h, r1, a1, e1⟩ : (fun v H1 => ∃ d k, (∃ i e, d = D.int i ∧ lookI kvs i = some e ∧ R e k) ∧ Rep c (st.at k) σ H1 ∧ AdvE c st.X H H1 ∧ Rl c.K (c.hid st.X H1) v d) v H1)⟩) fun u s1 ⟨v, H1, I1, rv, d, k, ⟨j, e, hj, he, hR⟩, r1, a1, e1⟩ => ?_
  subst hj
  cases e1.intE
  obtain ⟨t', rfl⟩ := rv
  have dd := hd s1.heap I1.kIn
  obtain ⟨v, hv, hr⟩ := ((rl (c.hid st.X H1)).look (i := j)).1 e he
  obtain ⟨u, hu, ru⟩ := RelO.some_of (v := v) (o := valueAt us j) (by rw [← hv]; exact KV.look kv)
  exact ⟨dd.typeIs, wpAny_getItem_of (knd := intKind X.prog X.w) (k := j) (by simp [intKind, Value.isInt]) dd.mapOf hu ⟨v, H1, I1.tok _, ru, f e k hR v H1 r1 a1 (hK ▸ hr)⟩⟩
theorem pd_inkd (h : KdAt X.prog X.w X.K X.mg x kvs) {pn : Pos} {i : Expr} {t : DE} (ht : PE X i (LE c t)) (hg : Gl X x := by rfl) (hdb : (x == ("__debug__" : PySem.Str)) = false := by decide) (hb : behindInMarks .In (Expr.Name x pn) = false := by rfl) :
    PE X (.Compare i [.In] [.Name x pn] pos) (LE c (dKdIn kvs t)) := by
  obtain ⟨a, us, vs, hm, low, hd, kv, rl⟩ := h.ex
  refine pe_cmp (op := .In) ⟨fun pins s σ H Q I ⟨st, R, rp, q, f⟩ => ?_⟩ hb
  refine thn (ht.run pins s σ H _ I ⟨st, _, rp, q, fun d k h v H1 r1 a1 e1 => (⟨d, k, h, r1, a1, e1⟩ : (fun v H1 => ∃ d k, (∃ i, d = D.int i ∧ R (.bl (lookI kvs i).isSome) k) ∧ Rep c (st.at k) σ H1 ∧ AdvE c st.X H H1 ∧ Rl c.K (c.hid st.X H1) v d) v H1)⟩) fun u s1 ⟨v, H1, I1, rv, d, k, ⟨j, hj, hR⟩, r1, a1, e1⟩ => ?_
  subst hj
  cases e1.intE
  obtain ⟨t', rfl⟩ := rv
  refine ld_glob I1 hg hm ?_ hdb
  have dd := hd s1.heap I1.kIn
  refine wpAny_in_of (knd := intKind X.prog X.w) (k := j) (by simp [intKind, Value.isInt]) low dd.mapOf ?_
  have z := KV.look (i := j) kv
  have y := (rl (c.hid st.X H1)).look (i := j)
  have eq : (valueAt us j).isSome = (lookI kvs j).isSome := by
    cases h1 : lookI kvs j with
    | none =>
      rw [y.2 h1] at z
      cases h2 : valueAt us j with
      | none => rfl
      | some u => rw [h2] at z; exact z.elim
    | some d =>
      obtain ⟨v, h3, _⟩ := y.1 d h1
      rw [h3] at z
      cases h2 : valueAt us j with
      | none => rw [h2] at z; exact z.elim
      | some u => rfl
  rw [eq]
  exact ⟨.bl _, H1, I1.tok _, rfl, f _ k hR _ H1 r1 a1 (.bl _)⟩
end
end DL
namespace DL
open PySem L2
open PySem.W (Frag)
abbrev dPairs : List (Int × DE) → S → (List (Int × D) → Nat → Prop) → Prop
  | [], s, Q => Q [] s.k
  | (i, t) :: r, s, Q => t s fun d k => dPairs r (s.at k) fun ds k' => Q ((i, d) :: ds) k'
abbrev dDix (kv : List (Int × DE)) (t : DE) : DE := fun s Q => ∀ p, p ∉ s.X → dPairs kv (s.own p s.k) fun vals k => ((vals.map (·.1)).Nodup ∧ vals.length ≤ 15) ∧ t (s.own p k) fun d k' => ∃ i e, d = .int i ∧ lookI vals i = some e ∧ Q e k'
theorem dPairs_ok {c : C} : ∀ (kv : List (Int × DE)) (s : S) (σ : L2.St) (H : Hp) (R : List (Int × D) → Nat → Prop) (Q : List (V × V) → Hp → Prop), Rep c s σ H → dPairs kv s R →
    (∀ ds k, R ds k → ∀ (vs : List (Int × V)) H', Rep c (s.at k) σ H' → AdvE c s.X H H' → KvA c.K (c.hid s.X H') vs ds → Q (vs.map fun p => (V.int p.1, p.2)) H') → tPairs (kv.map fun p => (tC (.int p.1), LE c p.2)) σ H Q
  | [], s, σ, H, R, Q, rp, q, f => f [] s.k q [] H rp AdvE.refl .nil
  | (i, t) :: r, s, σ, H, R, Q, rp, q, f => ⟨s, _, rp, q, fun d k h v H1 r1 a1 e1 => dPairs_ok r (s.at k) σ H1 _ _ r1 h fun ds k' hR vs H2 r2 a2 kv => f ((i, d) :: ds) k' hR ((i, v) :: vs) H2 r2 (a1.trans a2) (.cons (e1.mono a2.sub) kv)⟩
theorem merge_keys : ∀ (ps acc : List (Key × V)), (acc.map (·.1) ++ ps.map (·.1)).Nodup → mergeK acc ps = acc ++ ps := by
  intro ps
  induction ps with
  | nil => intro acc _; simp [mergeK]
  | cons p r ih =>
    intro acc h
    have h1 : mergeK acc (p :: r) = mergeK (putK acc p.1 p.2) r := rfl
    rw [h1]
    have hn : acc.any (fun kv => decide (kv.1 = p.1)) = false := by
      rw [List.any_eq_false]
      intro q hq
      simp only [decide_eq_true_eq]
      intro e
      have := (List.nodup_append.mp h).2.2 q.1 (List.mem_map.mpr ⟨q, hq, rfl⟩) p.1 (by simp)
      exact this e
    have h2 : putK acc p.1 p.2 = acc ++ [p] := by
      unfold putK
      rw [if_neg (by rw [hn]; exact Bool.false_ne_true)]
    rw [h2, ih (acc ++ [p]) (by simpa [List.append_assoc] using h), List.append_assoc]
    rfl
theorem look_val (vs : List (Int × V)) (i : Int) : valV (vs.map fun p => ((Sum.inl p.1 : Key), p.2)) (Sum.inl i) = lookI vs i := by
  unfold valV lookI
  induction vs with
  | nil => rfl
  | cons p r ih =>
    by_cases e : p.1 = i
    · simp [e]
    · have : ¬ ((Sum.inl p.1 : Key) = Sum.inl i) := fun q => e (Sum.inl.inj q)
      simp only [List.map_cons, List.find?_cons, decide_eq_false this, decide_eq_false e]
      exact ih
theorem KvA.keys {K : Frag} {H : Hp} : ∀ {vs : List (Int × V)} {ds : List (Int × D)}, KvA K H vs ds → vs.map (·.1) = ds.map (·.1)
  | _, _, .nil => rfl
  | _, _, .cons _ r => congrArg (_ :: ·) (KvA.keys r)
theorem KvA.mono {K : Frag} {A B : Hp} (x : Sub A B) : ∀ {vs : List (Int × V)} {ds : List (Int × D)}, KvA K A vs ds → KvA K B vs ds
  | _, _, .nil => .nil
  | _, _, .cons h r => .cons (h.mono x) (KvA.mono x r)
theorem nodup_inl : ∀ {l : List Int}, l.Nodup → (l.map fun i => (Sum.inl i : Key)).Nodup := fun {l} h => by
  induction l with
  | nil => exact List.nodup_nil
  | cons a r ih =>
    obtain ⟨h1, h2⟩ := List.nodup_cons.mp h
    refine List.nodup_cons.mpr ⟨fun z => ?_, ih h2⟩
    obtain ⟨b, hb, e⟩ := List.mem_map.mp z
    exact h1 (Sum.inl.inj e ▸ hb)
theorem Rep.mutX {c : C} {s : S} {σ : L2.St} {H : Hp} {p : Addr} {o : HO} (r : Rep c s σ H) (hp : p ∈ s.X) (h0 : p ∉ c.X0) (no : ∀ (i : Nat) ds, s.sl[i]? ≠ some (.own p ds)) (tb : TbK H (upd H p o)) (ht : NoTb o := by intro _ z; cases z) : Rep c s σ (upd H p o) ∧ Sub (c.hid s.X H) (c.hid s.X (upd H p o)) := by
  have sm : Sub (c.hid s.X H) (c.hid s.X (upd H p o)) := wo_mut (List.mem_append_right _ hp)
  refine ⟨⟨r.sub.trans sm, fun a ha hm hn => ?_, r.x0, r.xm, fun a ha => ?_, r.m.eq (fun a ha _ => upd_ne fun z => r.xm p hp (by rw [← z]; exact ha)) tb, fun j x e => ?_, r.apart, r.len, r.tb.trans tb, fun a ha => by
      by_cases z : a = p
      · rw [z, upd_same]; exact fun ps e => ht ps (Option.some.inj e)
      · rw [upd_ne z]; exact r.xt a ha⟩, sm⟩
  · rw [upd_ne fun z => h0 (by rw [← z]; exact ha)]
    exact r.old a ha hm hn
  · by_cases z : a = p
    · rw [z, upd_same]; simp
    · rw [upd_ne z]; exact r.xs a ha
  · have q := r.slot j x e
    cases x with
    | no => trivial
    | dat d =>
      obtain ⟨v, e, h⟩ := q
      exact ⟨v, e, h.mono sm⟩
    | own w ds =>
      obtain ⟨e', h1, h2, h3, ws, h4, h5⟩ := q
      have nw : w ≠ p := fun z => no j ds (z ▸ e)
      exact ⟨e', h1, h2, h3, ws, by rw [upd_ne nw]; exact h4, h5.mono sm⟩
    | mst => exact q
    | kds N Z => exact q
    | scr ns =>
      obtain ⟨v, e, h⟩ := q
      exact ⟨v, e, sm.sl h⟩
section
variable {X : Cx} {c : C} {pos p1 : Pos}
theorem pd_dix (hK : c.K = X.K) {j : Nat} (hr : Room j X.A) {keys : List (Option Expr)} {values : List Expr} {kv : List (Int × DE)} {i : Expr} {t : DE} (hp : PPs X p1 keys values (kv.map fun p => (tC (.int p.1), LE c p.2))) (ht : PE X i (LE c t)) (hall : keys.all (·.isSome) = true := by rfl) (hl : keys.length = values.length := by rfl)
    (h0 : keys ≠ [] := by exact fun z => by cases z) (h15 : keys.length ≤ 15 := by decide) (hs : NoSl i := by exact fun _ _ => rfl) : PE X (.Subscript (.Dict keys values p1) i pos) (LE c (dDix kv t)) :=
  (pe_dget (hu_of hr) (pe_disp hp hall hl h0 h15) ht hs).weak fun σ H Q ⟨s, R, rp, q, f⟩ => by
    intro p hpn
    have h := rp.hide (o := .dK []) hpn
    obtain ⟨n1, n2, n3, n4⟩ := rp.nofree hpn
    refine dPairs_ok kv (s.own p s.k) σ _ _ _ h.1 (q p n1) fun ds k ⟨⟨nd, l15⟩, hk⟩ vs H2 r2 a2 kva => ?_
    have d2 : H2 p = some (.dK []) := by rw [a2.own p List.mem_cons_self]; exact upd_same
    have no := fun (i : Nat) (es : List D) => rp.noslot n1 i es
    refine ⟨d2, vs.map fun p => ((Sum.inl p.1 : Key), p.2), by rw [List.map_map]; rfl, ?_, ?_⟩
    · rw [List.length_map]
      have e1 := congrArg List.length kva.keys
      rw [List.length_map, List.length_map] at e1
      omega
    · have m := Rep.mutX (s := s.own p k) (o := .dK (mergeK [] (vs.map fun p => ((Sum.inl p.1 : Key), p.2)))) r2 List.mem_cons_self n3 no (.at_ d2)
      refine ⟨s.own p k, _, m.1, hk, fun d k' ⟨i, e, hd, hl, hR⟩ v H4 r4 a4 e4 => ?_⟩
      subst hd
      cases e4.intE
      obtain ⟨v, hv, hr⟩ := (KvA.look (i := i) (kva.mono (m.2.trans a4.sub))).1 e hl
      have d4 : H4 p = some (.dK (vs.map fun p => ((Sum.inl p.1 : Key), p.2))) := by
        rw [a4.own p List.mem_cons_self, upd_same, merge_keys _ [] (by
          rw [List.map_nil, List.nil_append, List.map_map]
          have : ((fun x : Key × V => x.1) ∘ fun p : Int × V => ((Sum.inl p.1 : Key), p.2)) = fun p : Int × V => (Sum.inl p.1 : Key) := rfl
          rw [this]
          have e3 : (vs.map fun p : Int × V => (Sum.inl p.1 : Key)) = (vs.map (·.1)).map fun i => (Sum.inl i : Key) := by rw [List.map_map]; rfl
          rw [e3, kva.keys]
          exact nodup_inl nd), List.nil_append]
      refine ⟨p, v, rfl, by rw [← hv, ← look_val]; exact DGet.k (k := Sum.inl i) d4, ?_⟩
      have sb := hid_cons c p s.X H4
      refine f e k' hR v H4 (r4.show n1 n3 no) ⟨(((h.2.trans a2.sub).trans m.2).trans a4.sub).trans sb, fun a ha => ?_⟩ (hr.mono sb)
      have ne : a ≠ p := fun z => n1 (by rw [← z]; exact ha)
      rw [a4.own a (List.mem_cons_of_mem _ ha), upd_ne ne, a2.own a (List.mem_cons_of_mem _ ha), upd_ne ne]
theorem pdp_nil : PPs X pos [] [] ([] : List (TE × TE)) := pps_nil
theorem pdp_cons {z : Int} {jj : Nat} {p : Pos} {v : Expr} {t : DE} {ks : List (Option Expr)} {vs : List Expr} {trs : List (TE × TE)} (hv : PE X v (LE c t)) (hr : PPs X pos ks vs trs) : PPs X pos (some (.Constant (.int z) jj p) :: ks) (v :: vs) ((tC (.int z), LE c t) :: trs) := pps_cons pe_int hv hr
end
def D.tname : D → Option String
  | .non => some "NoneType"
  | .bl _ => some "bool"
  | .int _ => some "int"
  | .str _ => some "str"
  | .lst _ => some "list"
  | .tup _ => some "tuple"
  | .dic => some "dict"
  | .ins _ _ _ => none
  | .exc _ _ _ => none
abbrev dIsi (T : String) (t : DE) : DE := fun s Q => t s fun d k => ∃ n b, d.tname = some n ∧ kitB n T = some b ∧ Q (.bl b) k
abbrev dIsi2 (T U : String) (t : DE) : DE := fun s Q => t s fun d k => ∃ n a b, d.tname = some n ∧ kitB n T = some a ∧ kitB n U = some b ∧ Q (.bl (a || b)) k
theorem Rl.ty {K : Frag} {H : Hp} {v : V} {d : D} {n : String} (h : Rl K H v d) (e : d.tname = some n) : TyX K H v (.type n) := by
  cases h with
  | non => cases e; exact .base .non
  | bl b => cases e; exact .base (.bl b)
  | int i => cases e; exact .base (.int i)
  | str x => cases e; exact .base (.str x)
  | lst h _ => cases e; exact .base (.lst h)
  | tup h _ =>
    cases e
    rcases h with (h | ⟨o, h⟩) | ⟨o, its, m, h1, h2, _⟩
    · exact .base (.tup h)
    · exact .fTuple h
    · exact .kTuple h1 h2
  | dic h => cases e; exact .base (.dK h)
  | ins _ _ _ => cases e
  | exc _ _ _ _ => cases e
section
variable {X : Cx} {c : C} {pos p : Pos}
theorem pd_isi (hK : c.K = X.K) (hm : X.mg "isinstance" = none) {T : PySem.Str} {Tn : String} (hT : X.mg T = none) (hb : bootBuiltins T = some (.type Tn)) {e : Expr} {t : DE} {pt : Pos} (h : PE X e (LE c t)) (hg : Gl X "isinstance" := by rfl) (hgT : Gl X T := by rfl) (hnT : T ≠ "__name__" := by decide) (hdT : (T == ("__debug__" : PySem.Str)) = false := by decide)
    (hs : starEach [e, Expr.Name T pt] X.env = (false, eval e X.env) :: starEach [Expr.Name T pt] X.env := by rfl) (hs2 : starEach [Expr.Name T pt] X.env = (false, eval (Expr.Name T pt) X.env) :: starEach [] X.env := by rfl) (hp : (backTo pos (starEach [Expr.Name T pt] X.env)).any (·.1) = false := by rfl) :
    PE X (.Call (.Name "isinstance" p) [e, .Name T pt] [] pos) (LE c (dIsi Tn t)) :=
  (pe_callB call_isi hg hm PyProof.Rows.boot_isinstance (pa_cons h (pa_cons (pe_bltn (v := .ty Tn) hgT hT hb rfl hnT hdT) pa_nil hs2) hs) (he := hs) (hpl := hp)).weak fun σ H Q ⟨s, R, rp, q, f⟩ => ⟨s, _, rp, q, fun d k ⟨n, b, h1, h2, h3⟩ v H1 r1 a1 e1 =>
    ⟨v, _, _, _, b, rfl, .ty Tn, hK ▸ Rl.ty e1.all h1, kit_ty h2, f _ k h3 _ H1 r1 a1 (.bl _)⟩⟩
theorem pd_isi2 (hK : c.K = X.K) (hm : X.mg "isinstance" = none) {T U : PySem.Str} {Tn Un : String} (hT : X.mg T = none) (hU : X.mg U = none) (hb : bootBuiltins T = some (.type Tn)) (hbU : bootBuiltins U = some (.type Un)) {e : Expr} {t : DE} {pt pu ptt : Pos} {kk} (h : PE X e (LE c t)) (hg : Gl X "isinstance" := by rfl) (hgT : Gl X T := by rfl) (hgU : Gl X U := by rfl) (hnT : T ≠ "__name__" := by decide) (hdT : (T == ("__debug__" : PySem.Str)) = false := by decide) (hnU : U ≠ "__name__" := by decide) (hdU : (U == ("__debug__" : PySem.Str)) = false := by decide)
    (hsT : starEach [Expr.Name T pt, Expr.Name U pu] X.env = (false, eval (Expr.Name T pt) X.env) :: starEach [Expr.Name U pu] X.env := by rfl) (hsU : starEach [Expr.Name U pu] X.env = (false, eval (Expr.Name U pu) X.env) :: starEach [] X.env := by rfl)
    (hs : starEach [e, Expr.Tuple [Expr.Name T pt, Expr.Name U pu] kk ptt] X.env = (false, eval e X.env) :: starEach [Expr.Tuple [Expr.Name T pt, Expr.Name U pu] kk ptt] X.env := by rfl) (hs2 : starEach [Expr.Tuple [Expr.Name T pt, Expr.Name U pu] kk ptt] X.env = (false, eval (Expr.Tuple [Expr.Name T pt, Expr.Name U pu] kk ptt) X.env) :: starEach [] X.env := by rfl) (hp : (backTo pos (starEach [Expr.Tuple [Expr.Name T pt, Expr.Name U pu] kk ptt] X.env)).any (·.1) = false := by rfl) :
    PE X (.Call (.Name "isinstance" p) [e, .Tuple [.Name T pt, .Name U pu] kk ptt] [] pos) (LE c (dIsi2 Tn Un t)) :=
  (pe_callB call_isiT hg hm PyProof.Rows.boot_isinstance (pa_cons h (pa_cons (pe_tup (pa_cons (pe_bltn (v := .ty Tn) hgT hT hb rfl hnT hdT) (pa_cons (pe_bltn (v := .ty Un) hgU hU hbU rfl hnU hdU) pa_nil hsU) hsT)) pa_nil hs2) hs) (he := hs) (hpl := hp)).weak fun σ H Q ⟨s, R, rp, q, f⟩ => ⟨s, _, rp, q, fun d k ⟨n, a, b, h1, h2, h2', h3⟩ v H1 r1 a1 e1 => by
    refine ⟨by show 2 ≤ sizeLine; decide, fun tp hn => ?_⟩
    have nw := r1.new (o := .tup [.ty Tn, .ty Un]) hn
    refine ⟨v, tp, _, _, [.type Tn, .type Un], a || b, rfl, upd_same, .cons (.ty Tn) (.cons (.ty Un) .nil), hK ▸ Rl.ty (e1.mono nw.2.sub).all h1, ?_, f _ k h3 _ _ nw.1 (a1.trans nw.2) (.bl _)⟩
    refine kitAny_cons (kit_ty h2) (fun ha => ?_) (fun ha => by rw [ha]; rfl)
    rw [ha]
    exact kitAny_cons (kit_ty h2') (fun hb => by rw [hb]; exact kitAny_nil) (fun hb => by rw [hb]; rfl)⟩
end
end DL
namespace PySem
open Builtin
set_option maxHeartbeats 1000000 in
theorem enT_new {v : Value} {o : Obj} {Hh : Heap → Prop} (B : Begins v o Hh) : Meets (Builtin.«enumerate.__new__» ⟨[.type "enumerate", v], []⟩) (fun _ R s => Hh s.heap ∧
    R (.ok (.ret (.ref (s.heap.push o).objs.size))) { s with heap := (s.heap.push o).push { cls := .type "enumerate", data := .fields #[.none, .bool false, .ref s.heap.objs.size, rawInt 0, .none, .none] } }) := by
  refine .of_wp fun P' w' A' R s' hh => ?_
  obtain ⟨hp, gg, dd, tt, oo⟩ := s'
  obtain ⟨h0, hR⟩ := hh
  have sb := sub_enumerate
  have start : ∀ {A2 : Around} {E2 : Value → Shared → Prop} {Q2 : Value → Shared → Prop}, Q2 (.ref hp.objs.size) ⟨hp.push o, gg, dd, tt, oo⟩ → wpAny (model P' w') A2 (pyIter v) Q2 E2 ⟨hp, gg, dd, tt, oo⟩ := fun q => B.iter P' w' _ _ ⟨hp, gg, dd, tt, oo⟩ _ h0 q
  wp_walk using start
  refine wpAny_stack_any fun _ => wpAny_pure ?_
  split <;> first
    | (rename_i c _ _ _ _ _
       cases (c == Value.type "enumerate") <;> (wp_walk using start; exact ⟨_, rfl, hR⟩))
    | (wp_walk using start; exact ⟨_, rfl, hR⟩)
theorem enT_call {prog : Program} {w : World} {A : Around} {E : Value → Shared → Prop} {s : Shared} {v : Value} {o : Obj} {Hh : Heap → Prop} {Q : Value → Shared → Prop} (B : Begins v o Hh) (h0 : Hh s.heap)
    (fin : ∀ h', IsEnum h' (s.heap.objs.size + 1) s.heap.objs.size 0 .none → h'.get? s.heap.objs.size = some o → (∀ b u, s.heap.get? b = some u → h'.get? b = some u) → Q (.ref (s.heap.objs.size + 1)) { s with heap := h' }) :
    wpAny (model prog w) A (call (.type "enumerate") [v]) Q E s := by
  refine callType_new F.called_enumerate (by decide) (F.typeCall_enumerate_1 v) (F.newCall_enumerate_1 v) (fun obj => F.args_object_init_2 obj v) F.entry_enumerate_new (enT_new B) ⟨h0, ?_⟩
  have sz : (s.heap.push o).objs.size = s.heap.objs.size + 1 := Heap.size_push ..
  have en := Heap.get?_push_size (s.heap.push o) (o := { cls := .type "enumerate", data := .fields #[.none, .bool false, .ref s.heap.objs.size, rawInt 0, .none, .none] }) rfl
  rw [sz] at en
  refine ⟨⟨_, by rw [sz]; exact en, rfl⟩, ?_⟩
  rw [sz]
  exact fin _ en (Heap.get?_push_of_some _ (Heap.get?_push_size _ B.free)) fun b u e => Heap.get?_push_of_some _ (Heap.get?_push_of_some _ e)
end PySem
namespace DL
open PySem L2
open PySem.W (Frag)
def ItT (K : Frag) (a : Addr) : It :=
  ⟨fun i H => ∃ (xs : List V) (x : V), SqT K H a xs ∧ xs[i]? = some x,
   fun i H v H' => ∃ T x, v = .ref T ∧ H T = none ∧ H' = upd H T (.tup [.int (i : Nat), x]) ∧ ∀ xs, SqT K H a xs → xs[i]? = some x,
   fun i H => ∃ xs : List V, SqT K H a xs ∧ xs.length ≤ i⟩
theorem turn_enT {P : Program} {w : World} {K : Frag} {elts : List Expr} {kk : Nat} {tpos : Pos} (a e it : Addr) :
    Turn P w K (.Tuple elts kk tpos) (ItT K a) [e, it] e (fun i h => (∃ old, IsEnum h e it ((i : Nat) : Int) old) ∧ h.IsTupleIter it a i ∧ e ≠ it ∧ e ≠ a ∧ a ≠ it) where
  mem := List.mem_cons_self
  obj := fun i h ⟨⟨old, he⟩, ⟨o, ho, _, hd⟩, _⟩ b hb => by
    rcases List.mem_cons.mp hb with rfl | hb
    · exact ⟨_, he, fun v q => nomatch q⟩
    · rcases List.mem_cons.mp hb with rfl | hb
      · exact ⟨o, ho, fun v q => by rw [hd] at q; cases q⟩
      · cases hb
  keep := fun i h h' ⟨⟨old, he⟩, hi, hne⟩ k => ⟨⟨old, k e List.mem_cons_self _ he⟩, hi.at fun o q => k it (List.mem_cons_of_mem _ List.mem_cons_self) o q, hne⟩
  item := by
    intro X e1 e2 e3 hc i pins s σ H E I hf st hg
    subst e1 e2 e3
    obtain ⟨⟨old, he⟩, hit, ne1, ne2, ne3⟩ := st
    obtain ⟨xs, x, hq, hx⟩ := hg
    obtain ⟨its, rv, p, hz⟩ := I.tuple hq
    obtain ⟨u, hu, ru⟩ := rv.get hx
    have lt1 : e < s.heap.objs.size := Heap.lt_size he
    have lt2 : it < s.heap.objs.size := by obtain ⟨_, q, _⟩ := hit; exact Heap.lt_size q
    have hi : i < its.toArray.size := by rw [List.size_toArray]; exact (List.getElem?_eq_some_iff.mp hu).1
    have mem : ∀ b, b ∈ [e, it] → b = e ∨ b = it := fun b hb => by simpa using hb
    refine wpAny_pyNext_enum_itemD (Draws.tuple (A := X.A.in1) (show X.A.in1.handled = none from I.ok.hd hc) it a ne3 its.toArray) he ⟨hit, (show s.heap.IsTuple a its.toArray from p)⟩ hi ne1 (by simp [ne1, ne2]) fun y h' tk hy ho hst hT hsz hk => ?_
    have hy : y = u := by
      have : its.toArray[i]? = some u := by simpa using hu
      rw [this] at hy
      exact (Option.some.inj hy).symm
    subst hy
    refine ⟨_, rfl, wpAny_letOwnedTupleGo_enum (s := { s with heap := h', toks := tk + 1 }) ho fun h2 he2 sb => ?_⟩
    have kT : h2.get? s.heap.objs.size = some { cls := .type "tuple", data := .seq #[.int i tk, y] } := (sb.2 _ (Nat.ne_of_gt lt1)).trans hT
    have new : ObjOk X.prog X.w (upd H s.heap.objs.size (.tup [.int (i : Nat), x])) h2 s.heap.objs.size (.tup [.int (i : Nat), x]) :=
      ⟨by show 2 ≤ sizeLine; decide, [.int i tk, y], .cons ⟨_, rfl⟩ (.cons ru .nil), ⟨_, kT, rfl, _, rfl⟩⟩
    have I1 : Inv X pins σ (upd H s.heap.objs.size (.tup [.int (i : Nat), x])) { s with heap := h2, toks := tk + 1 } :=
      I.turnedNew (ch := [e, it]) (fun b ob hb q => (sb.2 b fun z => hb (by simp [z])).trans (hk b ob (fun z => hb (by simp [z])) (fun z => hb (by simp [z])) q)) hf (Nat.le_refl _) new
    refine ⟨.ref s.heap.objs.size, _, I1, rfl, ⟨_, x, rfl, I.hok.fresh (Nat.le_refl _), rfl, fun ys hy => by rw [I.tuple_inj hy hq]; exact hx⟩, ⟨⟨y, ?_⟩, hst.1.at fun o q => (sb.2 it (Ne.symm ne1)).trans q, ne1, ne2, ne3⟩, fun b hb => ?_⟩
    · have e1 : ((i + 1 : Nat) : Int) = (i : Int) + 1 := by omega
      rw [e1]
      exact he2
    · have hb' : b < s.heap.objs.size := by
        rcases mem b hb with rfl | rfl
        · exact lt1
        · exact lt2
      rw [upd_ne (Nat.ne_of_lt hb')]
      exact (hf b hb).1
  done := by
    intro X e1 e2 e3 hc i pins s σ H E I hf st hg
    subst e1 e2 e3
    obtain ⟨⟨old, he⟩, hit, ne1, ne2, ne3⟩ := st
    obtain ⟨xs, hq, hx⟩ := hg
    obtain ⟨its, rv, p, hz⟩ := I.tuple hq
    obtain ⟨f0, f1, f2, f3, f4, f5⟩ := hf it (List.mem_cons_of_mem _ List.mem_cons_self)
    have hl := rv.length
    have hh : X.A.in1.handled = none := I.ok.hd hc
    have no : its.toArray[i]? = none := by
      rw [List.getElem?_toArray, List.getElem?_eq_none_iff]
      omega
    have D' : Draws X.prog X.w X.A.in1 it [it, a] i (fun _ _ => False) (fun j h => j = i ∧ h.IsTupleIter it a i ∧ h.IsTuple a its.toArray) :=
      { live := fun _ _ st => let ⟨o, ho, _⟩ := st.2.1; ⟨o, ho⟩
        frame := fun _ _ _ st hk => ⟨st.1, st.2.1.at fun o e => hk it (by simp) o e, st.2.2.at fun o e => hk a (by simp) o e⟩
        item := fun j s Q E hj st _ => absurd st.1 (Nat.ne_of_lt hj)
        done := fun s Q E st hE => wpAny_nextOf_tuple_end hh st.2.1 st.2.2 no hE }
    exact wpAny_pyNext_enum_endD D' he ⟨rfl, hit, (show s.heap.IsTuple a its.toArray from p)⟩ fun h' eb => ⟨rfl, I.turned (t' := s.toks) (fun b o hb q => eb b o hb q) f0 f1 f3 f4 f5⟩
  self := fun A i s Q E st h => wpAny_pyIter_enum st.1.choose_spec h
theorem Yl.enT {c : C} {s0 : S} {Hs : Hp} {K : Frag} {a : Addr} {vs : List V} {ds : List D} (hK : c.K = K) (h : SqT c.K (c.hid s0.X Hs) a vs) (r : RlA c.K (c.hid s0.X Hs) vs ds) : Yl c s0 Hs (ItT K a) (enumD 0 ds) := fun i s σ H rp ad => by
  subst hK
  have h1 : SqT c.K H a vs := (ad.trans (wo_sub _ _)).st h
  have r1 := r.mono ad
  refine ⟨fun hl => ⟨vs, h1, by rw [r.len, ← enum_len ds 0]; exact hl⟩, fun d hd => ?_⟩
  obtain ⟨e, he, rfl⟩ := enum_at hd
  obtain ⟨v, hv, hr⟩ := r1.getD he
  refine ⟨⟨vs, v, h1, hv⟩, fun x H' ⟨T, y, e1, e2, e3, e4⟩ => ?_⟩
  subst e1 e3
  have e5 := e4 vs h1
  rw [hv] at e5
  cases e5
  rw [Nat.zero_add]
  exact Yl.pair rp e2 (.int _) hr
abbrev iEnS (t : DE) : DI := fun s Q => t s fun d k => ∃ ds, d.items = some ds ∧ Q (enumD 0 ds) k
section
variable {X : Cx} {c : C} {tg : Expr}
theorem pid_enumS (hK : c.K = X.K) {e : Expr} {t : DE} {p pos tpos : Pos} {elts : List Expr} {kk : Nat} (hm : X.mg "enumerate" = none) (h : PE X e (LE c t)) (hg : Gl X "enumerate" := by rfl) (hs : starEach [e] X.env = [(false, eval e X.env)] := by rfl) :
    PI X (.Tuple elts kk tpos) (.Call (.Name "enumerate" p) [e] [] pos) (LI c (iEnS t)) := by
  refine ⟨fun pins s σ H R I ⟨st, Z, rp, q, f⟩ => ?_⟩
  refine PyProof.Rows.Call_ (ld_blt I hg hm PyProof.Rows.boot_enumerate (PyProof.Rows.callWith_type1 (thn ((pad_cons h pad_nil hs).run pos pins s σ H (fun vs H1 => ∃ v d k ds, vs = [v] ∧ d.items = some ds ∧ Z (enumD 0 ds) k ∧ Rep c (st.at k) σ H1 ∧ AdvE c st.X H H1 ∧ Rl c.K (c.hid st.X H1) v d) I
    ⟨st, fun ds k => (match ds with | [d] => ∃ ds, d.items = some ds ∧ Z (enumD 0 ds) k | _ => False), rp, q, fun ds k hq vs H1 r1 a1 e1 => by
      cases e1 with
      | nil => exact hq.elim
      | cons e1 e2 =>
        cases e2 with
        | cons _ _ => exact hq.elim
        | nil =>
          obtain ⟨ds, h1, h2⟩ := hq
          exact ⟨_, _, k, ds, rfl, h1, h2, r1, a1, e1⟩⟩) fun us s1 ⟨vs, H1, I1, r1, v, d, k, ds, ev, hd, hz, rp1, a1, e1⟩ => ?_) hs rfl))
  subst ev
  cases r1 with
  | cons rv rr =>
    cases rr
    have fresh : ∀ b, s1.heap.objs.size ≤ b → H1 b = none := fun b hb => I1.hok.fresh hb
    cases d <;> first | cases hd | skip
    · obtain ⟨a, ws, rfl, h1, r⟩ := e1.lstE
      cases (show _ = Value.ref a from rv)
      have h1' : SqL X.K H1 a ws := SqL.of (wo_sub _ _ _ _ h1)
      obtain ⟨its, rv', p', hz'⟩ := I1.list h1'
      refine enT_call (begins_list a its.toArray) p'.isList fun h' he ho hk => wpAny_pyIter_enum he ?_
      have I2 : Inv X pins σ H1 { s1 with heap := h' } := I1.kept (t' := s1.toks) hk
      refine ⟨_, [s1.heap.objs.size + 1, s1.heap.objs.size], _, _, H1, rfl, I2, turn_enum a (s1.heap.objs.size + 1) s1.heap.objs.size, ⟨⟨.none, he⟩, ⟨_, ho, rfl, rfl⟩, Nat.succ_ne_self _⟩, fun b hb => ?_, f _ k hz _ H1 rp1 a1 (Yl.enum hK h1 r)⟩
      have hle : s1.heap.objs.size ≤ b := by
        rcases (by simpa using hb : b = s1.heap.objs.size + 1 ∨ b = s1.heap.objs.size) with z | z
        · rw [z]; exact Nat.le_succ _
        · rw [z]; exact Nat.le_refl _
      exact I1.fpOk hle (fresh b hle)
    · obtain ⟨a, ws, rfl, h1, r⟩ := e1.tupE
      cases (show _ = Value.ref a from rv)
      have h1' : SqT X.K H1 a ws := hK ▸ (wo_sub _ _).st h1
      obtain ⟨its, rv', p', hz'⟩ := I1.tuple h1'
      have lt : a < s1.heap.objs.size := p'.lt
      refine enT_call (begins_tuple a its.toArray) (show s1.heap.IsTuple a its.toArray from p') fun h' he ho hk => wpAny_pyIter_enum he ?_
      have I2 : Inv X pins σ H1 { s1 with heap := h' } := I1.kept (t' := s1.toks) hk
      refine ⟨_, [s1.heap.objs.size + 1, s1.heap.objs.size], _, _, H1, rfl, I2, turn_enT a (s1.heap.objs.size + 1) s1.heap.objs.size, ⟨⟨.none, he⟩, ⟨_, ho, rfl, rfl⟩, Nat.succ_ne_self _, Nat.ne_of_gt (Nat.lt_succ_of_lt lt), Nat.ne_of_lt lt⟩, fun b hb => ?_, f _ k hz _ H1 rp1 a1 (Yl.enT hK h1 r)⟩
      have hle : s1.heap.objs.size ≤ b := by
        rcases (by simpa using hb : b = s1.heap.objs.size + 1 ∨ b = s1.heap.objs.size) with z | z
        · rw [z]; exact Nat.le_succ _
        · rw [z]; exact Nat.le_refl _
      exact I1.fpOk hle (fresh b hle)
end
end DL
namespace DL
open PySem L2
open PySem.W (Frag)
abbrev iScr (i : Nat) : DI := fun s Q => ∃ ns : List Int, s.sl[i]? = some (.scr ns) ∧ Q (ns.map .int) s.k
abbrev iScE (i : Nat) : DI := fun s Q => ∃ ns : List Int, s.sl[i]? = some (.scr ns) ∧ Q (enumD 0 (ns.map .int)) s.k
theorem Yl.scr {c : C} {s0 : S} {Hs : Hp} {K : Frag} {a : Addr} {vs : List V} {ds : List D} (hK : c.K = K) (h : SqL c.K (c.hid s0.X Hs) a vs) (r : RlA c.K (c.hid s0.X Hs) vs ds) : Yl c s0 Hs (Itl K a) ds := fun i s σ H rp ad => by
  have h1 : SqL K H a vs := hK ▸ (ad.trans (wo_sub _ _)).sl h
  have r1 := r.mono ad
  refine ⟨fun hl => ⟨vs, h1, by rw [r.len]; exact hl⟩, fun d hd => ?_⟩
  obtain ⟨v, hv, hr⟩ := r1.getD hd
  refine ⟨⟨vs, v, h1, hv⟩, fun x H' ⟨e1, e2⟩ => ?_⟩
  subst e1
  have e3 := e2 vs h1
  rw [hv] at e3
  cases e3
  exact ⟨rp, AdvE.refl, hr⟩
theorem Yl.scrE {c : C} {s0 : S} {Hs : Hp} {K : Frag} {a : Addr} {vs : List V} {ds : List D} (hK : c.K = K) (h : SqL c.K (c.hid s0.X Hs) a vs) (r : RlA c.K (c.hid s0.X Hs) vs ds) : Yl c s0 Hs (Ite K a) (enumD 0 ds) := fun i s σ H rp ad => by
  have h1 : SqL K H a vs := hK ▸ (ad.trans (wo_sub _ _)).sl h
  have r1 := r.mono ad
  refine ⟨fun hl => ⟨vs, h1, by rw [r.len, ← enum_len ds 0]; exact hl⟩, fun d hd => ?_⟩
  obtain ⟨e, he, rfl⟩ := enum_at hd
  obtain ⟨v, hv, hr⟩ := r1.getD he
  refine ⟨⟨vs, v, h1, hv⟩, fun x H' ⟨T, y, e1, e2, e3, e4⟩ => ?_⟩
  subst e1 e3
  have e5 := e4 vs h1
  rw [hv] at e5
  cases e5
  rw [Nat.zero_add]
  exact Yl.pair rp e2 (.int _) hr
section
variable {X : Cx} {c : C} {tg : Expr}
theorem pid_scr (hK : c.K = X.K) (i : Nat) {x : PySem.Str} {pn : Pos} (hN : X.N[i]? = some x := by rfl) (hv : Vis X.env.scope x := by first | exact Or.inl rfl | exact Or.inr (Or.inl rfl) | exact Or.inr (Or.inr rfl)) (hd : (x == ("__debug__" : PySem.Str)) = false := by decide) (hcd : (x == ("__classdict__" : PySem.Str)) = false := by decide) :
    PI X tg (.Name x pn) (LI c (iScr i)) :=
  PI.weak (pi_list (pe_var hN hv hd hcd)) fun σ H R ⟨s, Z, rp, ⟨ns, hs, hz⟩, f⟩ => by
    obtain ⟨a, e, h⟩ := rp.slot i _ hs
    exact ⟨_, e, a, rfl, ⟨_, hK ▸ (wo_sub _ _).sl h⟩, f _ s.k hz _ H rp AdvE.refl (Yl.scr hK h (RlA.ints ns))⟩
theorem pid_scrE (hK : c.K = X.K) (i : Nat) {x : PySem.Str} {pn p pos tpos : Pos} {elts : List Expr} {kk : Nat} (hm : X.mg "enumerate" = none) (hN : X.N[i]? = some x := by rfl) (hv : Vis X.env.scope x := by first | exact Or.inl rfl | exact Or.inr (Or.inl rfl) | exact Or.inr (Or.inr rfl)) (hd : (x == ("__debug__" : PySem.Str)) = false := by decide) (hcd : (x == ("__classdict__" : PySem.Str)) = false := by decide)
    (hg : Gl X "enumerate" := by rfl) (hs : starEach [Expr.Name x pn] X.env = [(false, eval (Expr.Name x pn) X.env)] := by rfl) : PI X (.Tuple elts kk tpos) (.Call (.Name "enumerate" p) [.Name x pn] [] pos) (LI c (iScE i)) :=
  PI.weak (pi_enum hg hm (pa_cons (pe_var hN hv hd hcd) pa_nil hs) hs) fun σ H R ⟨s, Z, rp, ⟨ns, hs, hz⟩, f⟩ => by
    obtain ⟨a, e, h⟩ := rp.slot i _ hs
    exact ⟨_, e, a, _, rfl, hK ▸ (wo_sub _ _).sl h, f _ s.k hz _ H rp AdvE.refl (Yl.scrE hK h (RlA.ints ns))⟩
end
def spS (K : Frag) (sp : List Int → (D → Prop) → Prop) : Sp := fun vs H Q _ => ∃ (a : Addr) (ns : List Int) (R : D → Prop), vs = [.ref a] ∧ SqL K H a (ns.map V.int) ∧ sp ns R ∧ ∀ d, R d → ∀ v H', Sub (wo H []) (wo H' []) → TbK H H' → Rl K H' v d → Q v H'
theorem Sub.out {A B : Hp} (s : Sub (wo A []) (wo B [])) {b : Addr} {o : HO} (h : A b = some o) (n : NoTb o := by intro _ z; cases z) : B b = some o := (wo_ne (s b o (wo_of (by simp) h n))).2
theorem sl_in {K : Frag} {A : Hp} {a : Addr} {vs : List V} (h : SqL K A a vs) : SqL K (wo A []) a vs := by
  rcases h with (h | ⟨o, h⟩) | h
  · exact .inl (.inl (wo_of (by simp) h))
  · exact .inl (.inr ⟨o, wo_of (by simp) h⟩)
  · exact .inr h
section
variable {P : Program} {w : World} {K : Frag} {mg : PySem.Str → Option Value} {base : Heap}
theorem okS {x qual : PySem.Str} {st : Stmt} {f : Addr} {fd : FuncData} {N : List PySem.Str} {y : PySem.Str} {k : Nat} {sp : List Int → (D → Prop) → Prop} (F : Fun K x qual st f fd) (Sc : FnScope N [y] (defScope st)) (ow : List Nat)
    (body : ∃ t : DS, (∀ (cdv : Value) (A : Around) (outer : List Env) (s : Shared) (H : Hp) (E : XK), Room k (A.deeper (PyProof.Rows.envOfC qual (defScope st) s.heap.objs.size f cdv)) →
        PSs (cxOf CX0 P w K mg base N qual (defScope st) f cdv A outer s H E).nox (defBody st) (LS ⟨K, none, [], H, ow⟩ t)) ∧
      ∀ ns R, sp ns R → t { nx := fun _ => R .non, rt := fun d _ => R d } ⟨[], .scr ns :: List.replicate (N.length - 1) .no, 0⟩) :
    FnOk P w K mg base CX0 (k + 1) f fd [y] (spS K sp) := by
  obtain ⟨t, hb, hr⟩ := body
  refine F.ok Sc (fun vs H Q E ⟨a, ns, R, h, _⟩ => by rw [h]; rfl) fun cdv A outer s H vs Q E room h => ?_
  obtain ⟨a, ns, R, rfl, ha, hsp, fin⟩ := h
  refine ⟨LS ⟨K, none, [], H, ow⟩ t, hb cdv A outer s H E room, ⟨[], .scr ns :: List.replicate (N.length - 1) .no, 0⟩, _, ?_, hr ns R hsp, ?_⟩
  · refine ⟨Sub.refl _, fun _ h => (nomatch h), fun _ h => h, fun _ h => (nomatch h), fun _ h => (nomatch h), trivial, fun i z e => ?_, fun i j p q ds es e _ _ => ?_, ?_, .refl, fun _ h => (nomatch h)⟩
    · cases i with
      | zero =>
        obtain rfl : Sl.scr ns = z := Option.some.inj e
        exact ⟨a, start_get rfl, sl_in ha⟩
      | succ i =>
        have e : (List.replicate (N.length - 1) Sl.no)[i]? = some z := e
        rw [List.getElem?_replicate] at e
        split at e
        · cases e; trivial
        · cases e
    · have e : (Sl.scr ns :: List.replicate (N.length - 1) Sl.no)[i]? = some (.own p ds) := e
      have mem := List.mem_of_getElem? e
      simp at mem
    · have : 1 ≤ N.length := by have := congrArg List.length Sc.pre; rw [List.length_take] at this; simp at this; omega
      show (Sl.scr ns :: List.replicate (N.length - 1) Sl.no).length = (L2.start N [.ref a]).length
      unfold L2.start
      simp
      
  · have go : ∀ d v H', Sub (wo H []) (wo H' []) → TbK H H' → Rl K (wo H' []) v d → R d → Q v H' := fun d v H' sb tb e r => fin d r v H' sb tb (e.mono (wo_sub _ _))
    exact ⟨fun s' σ' H' r _ q => go .non .non H' (r.sub.trans r.sub0) r.tb .non q, fun _ _ _ _ _ q => q, fun _ _ _ _ _ q => q, fun d k v H' fi e r => go d v H' fi.sub fi.tb e r⟩
end
end DL
namespace DL
open PySem L2
open PySem.W (Frag)
abbrev fldD {α : Type} (ns : List PySem.Str) (xs : List α) (f : PySem.Str) : Option α := (ns.zip xs).lookup f
theorem fld_rl {K : Frag} {H : Hp} {f : PySem.Str} : ∀ {ns : List PySem.Str} {vs : List V} {ds : List D} {d : D}, RlA K H vs ds → fldD ns ds f = some d → ∃ v, fldD ns vs f = some v ∧ Rl K H v d
  | [], _, _, _, _, h => by simp [fldD] at h
  | n :: ns, _, _, _, .nil, h => by simp [fldD] at h
  | n :: ns, v :: vs, d' :: ds, d, .cons r q, h => by
    unfold fldD at h ⊢
    rw [List.zip_cons_cons, List.lookup_cons] at h ⊢
    cases e : (f == n) with
    | true => rw [e] at h; cases h; exact ⟨v, rfl, r⟩
    | false => rw [e] at h; exact fld_rl q h
theorem Rl.insE {K : Frag} {H : Hp} {v : V} {C : Addr} {ns : List PySem.Str} {ds : List D} (h : Rl K H v (.ins C ns ds)) : ∃ a dx vs, v = .ref a ∧ H a = some (.ins C dx (ns.zip vs)) ∧ ns.length = vs.length ∧ RlA K H vs ds := by
  cases h with
  | ins h l r => exact ⟨_, _, _, rfl, h, l, r⟩
abbrev dFld (C : Addr) (f : PySem.Str) (t : DE) : DE := fun s Q => t s fun d k => ∃ ns xs e, d = .ins C ns xs ∧ fldD ns xs f = some e ∧ Q e k
section
variable {X : Cx} {c : C} {pos p : Pos} {e : Expr} {t : DE}
theorem pd_fld (hK : c.K = X.K) {C : Addr} {f : PySem.Str} (hC : Cls X.K C) (hn : NoAttr X.K C f) (ha : PE X e (LE c t)) (hb : attributeBase e f X.env (eval e X.env) = eval e X.env := by rfl) : PE X (.Attribute e f pos) (LE c (dFld C f t)) :=
  (pe_fld ha hb).weak fun σ H Q ⟨s, R, rp, q, fn⟩ => ⟨s, _, rp, q, fun d k ⟨ns, xs, e', hd, he, hR⟩ v H1 r1 a1 e1 => by
    subst hd
    obtain ⟨a, dx, vs, rfl, h1, l, r⟩ := e1.insE
    obtain ⟨u, h2, h3⟩ := fld_rl r he
    exact ⟨a, C, dx, _, u, rfl, wo_sub _ _ _ _ h1, hC, hn, h2, fn e' k hR u H1 r1 a1 h3⟩⟩
end
section
variable {X : Cx}
theorem call_lenO {C f : Addr} {fd : FuncData} {ps : List PySem.Str} {sp : Sp} {k : Nat} (hm : Meth X.K C "__len__" f) (F : FnOk X.prog X.w X.K X.mg X.base CX0 k f fd ps sp) (hr : Room (k + 1) X.A) (hb : Binds X.K fd ps []) :
    CallR X (.builtin "len") (fun xs H Q => ∃ a dx fs, xs = [.ref a] ∧ H a = some (.ins C dx fs) ∧ sp [.ref a] H (fun v H' => ∃ n : Nat, v = .int n ∧ n < 2 ^ 63 ∧ Q (.int n) H') E0) := by
  intro pins s σ H xs us Q I r ⟨a, dx, fs, hx, ea, h⟩
  subst hx
  obtain ⟨u, rfl, rx⟩ := vals1 r
  obtain rfl : u = Value.ref a := rx
  obtain ⟨mA, O, _, _, _, _⟩ := ins_get I.hok ea
  obtain ⟨od, J, _⟩ := O.look
  refine Calls.call_function_entry kind_len plain_len entry_len (args_len1 _) ?_
  unfold Builtin.«len»
  refine wpAny_bind (wpAny_pure ?_)
  refine wpAny_bind (PySem.W.special_fn I.kIn J hm.at_ (beq_iff_eq.mp hm.fn) ?_)
  have hl : ([Value.ref a] ++ []).length = ps.length := F.len _ _ _ _ h
  refine wpAny_call (codeAny_mono (F.run X.A.in1 X.stack s H ⟨[.ref a], []⟩ [.ref a] [.ref a] _ E0 hr.in1 I.env0.in1 (hb s [.ref a] I.kIn hl) (.cons rfl .nil) h) fun r s' hq => ?_)
  cases r with
  | error e => exact hq.elim
  | ok fl =>
    cases fl with
    | next => exact hq.elim
    | brk => exact hq.elim
    | cont => exact hq.elim
    | ret u =>
      obtain ⟨v, H', I', rv, n, rfl, hn, hQ⟩ := I.after hq
      obtain ⟨t, rfl⟩ := rv
      refine wpAny_bind (wpAny_holding (wpAny_pure ?_))
      refine wpAny_bind (wpAny_letGo ?_)
      show wpAny _ _ (if (n : Int) < 0 then _ else _) _ _ _
      rw [if_neg (by omega)]
      show wpAny _ _ (if (n : Int) ≥ 2 ^ 63 then _ else _) _ _ _
      rw [if_neg (by omega)]
      exact wpAny_bind (wpAny_mkInt (wpAny_pure ⟨_, rfl, .int n, H', I'.tok _, ⟨_, rfl⟩, hQ⟩))
end
structure LenD (P : Program) (w : World) (K : Frag) (mg : PySem.Str → Option Value) (base : Heap) (k : Nat) (C : Addr) (sp : DSp) : Prop where
  ex : ∃ f fd ps, Meth K C "__len__" f ∧ FnOk P w K mg base CX0 k f fd ps (spD K false sp) ∧ Binds K fd ps []
abbrev dLenO (C : Addr) (sp : DSp) (t : DE) : DE := fun s Q => t s fun d k => (∃ ns xs, d = .ins C ns xs) ∧ sp [d] 0 fun r _ => ∃ n : Nat, r = .int n ∧ n < 2 ^ 63 ∧ Q (.int n) k
section
variable {X : Cx} {c : C} {k j : Nat} {p pos : Pos} {e : Expr} {t : DE} {Cl : Addr} {sp : DSp}
theorem pd_lenO (hK : c.K = X.K) (hm : X.mg "len" = none) (L : LenD X.prog X.w X.K X.mg X.base k Cl sp) (hr : Room j X.A) (hk : k + 1 ≤ j) (he : PE X e (LE c t)) (hg : Gl X "len" := by rfl) (hs : starEach [e] X.env = (false, eval e X.env) :: starEach [] X.env := by rfl) (hpl : (backTo pos (starEach [] X.env)).any (·.1) = false := by rfl) :
    PE X (.Call (.Name "len" p) [e] [] pos) (LE c (dLenO Cl sp t)) := by
  obtain ⟨f, fd, ps, M, F, B⟩ := L.ex
  refine (pe_callB (call_lenO M F (hr.mono hk) B) hg hm PySem.boot_len (pa_cons he pa_nil hs) (he := hs) (hpl := hpl)).weak fun σ H Q ⟨s, R, rp, q, fn⟩ => ⟨s, _, rp, q, fun d k1 ⟨⟨ns, xs, hd⟩, hsp⟩ v H1 r1 a1 e1 => ?_⟩
  subst hd
  obtain ⟨a, dx, us, rfl, h1, l, r⟩ := e1.insE
  refine ⟨a, dx, _, rfl, wo_sub _ _ _ _ h1, ?_⟩
  refine ⟨none, Ml c.M ++ s.X, 0, _, _, _, ⟨rfl, rfl⟩, ⟨fun a _ => by simp [Ml], r1.allHid, trivial, hK ▸ RlA.cons e1 .nil, r1.allTb⟩, hsp, fun d k' ⟨n, hd, hn, hR⟩ v H' af er => ?_⟩
  subst hd
  cases er.intE
  have z := Rep.after (s := s.at k1) r1 ⟨af.sub, af.old, af.m, af.tb⟩
  exact ⟨n, rfl, hn, fn _ k1 hR _ H' z.1 (a1.trans z.2) (.int _)⟩
end
def spI (K : Frag) (C : Addr) (sp : DSp) : Sp := fun vs H Q _ => ∃ (X0 : List Addr) (x dx : Addr) (ds : List D) (ws : List V) (R : D → Nat → Prop), vs = .ref x :: ws ∧ H x = some (.ins C dx []) ∧ H dx = some (.own x) ∧ dx ≠ x ∧ (∀ a ∈ X0, H a ≠ none) ∧ (∀ a ∈ X0, ∀ ps, H a ≠ some (.tbl ps)) ∧ x ∉ X0 ∧ dx ∉ X0 ∧
  RlA K (wo H (x :: X0)) ws ds ∧ sp ds 0 R ∧ ∀ d k', R d k' → ∀ H', Sub (wo H (x :: X0)) (wo H' X0) → (∀ a ∈ X0, H' a = H a) → TbK H H' → Rl K (wo H' X0) (.ref x) d → Q .non H'
structure MakD (P : Program) (w : World) (K : Frag) (mg : PySem.Str → Option Value) (base : Heap) (k : Nat) (x : PySem.Str) (C : Addr) (sp : DSp) : Prop where
  ex : ∃ f fd ps, Mk K C f ∧ FnOk P w K mg base CX0 k f fd ps (spI K C sp) ∧ mg x = some (.ref C) ∧ Binds K fd ps []
section
variable {X : Cx} {c : C} {k j : Nat} {p pos : Pos} {e : Expr} {es : List Expr} {t : DA} {Cl : Addr} {x : PySem.Str} {sp : DSp}
theorem pd_make (hK : c.K = X.K) (F : MakD X.prog X.w X.K X.mg X.base k x Cl sp) (hr : Room j X.A) (hk : k + 1 ≤ j) (ha : PA X (e :: es) (LA c t)) (hg : Gl X x := by rfl) (hdb : (x == ("__debug__" : PySem.Str)) = false := by decide) (he : starEach (e :: es) X.env = (false, eval e X.env) :: starEach es X.env := by rfl) (hpl : (backTo pos (starEach es X.env)).any (·.1) = false := by rfl) :
    PE X (.Call (.Name x p) (e :: es) [] pos) (LE c (dCall sp t)) := by
  obtain ⟨f, fd, ps, M, G, hm, b⟩ := F.ex
  refine (pe_make M G (hr.mono hk) hg hm b .nil pass0 ha hdb he hpl).weak fun σ H Q ⟨s, R, rp, q, fn⟩ => ⟨s, _, rp, q, fun ds k1 h1 vs H1 r1 a1 e1 y dx hy hd ne => ?_⟩
  have al := r1.allHid
  have ny : y ∉ Ml c.M ++ s.X := fun z => al y z hy
  have nd : dx ∉ Ml c.M ++ s.X := fun z => al dx z hd
  have sb : Sub (wo H1 (Ml c.M ++ s.X)) (wo (upd (upd H1 dx (.own y)) y (.ins Cl dx [])) (y :: (Ml c.M ++ s.X))) := fun a o h => by
    obtain ⟨n, h⟩ := wo_ne h
    have n1 : a ≠ y := fun z => by rw [z, hy] at h; cases h
    have n2 : a ≠ dx := fun z => by rw [z, hd] at h; cases h
    exact wo_of (fun z => (List.mem_cons.mp z).elim n1 n) (by rw [upd_ne n1, upd_ne n2]; exact h)
  have od : ∀ a ∈ Ml c.M ++ s.X, (upd (upd H1 dx (.own y)) y (.ins Cl dx [])) a = H1 a := fun a h => by
    rw [upd_ne (fun z => ny (by rw [← z]; exact h)), upd_ne (fun z => nd (by rw [← z]; exact h))]
  refine ⟨Ml c.M ++ s.X, y, dx, ds, vs, _, by rw [List.append_nil], upd_same, by rw [upd_ne ne]; exact upd_same, ne, fun a h => by rw [od a h]; exact al a h, fun a h => by rw [od a h]; exact r1.allTb a h, ny, nd, (hK ▸ e1 : RlA X.K _ vs ds).mono sb, h1, fun d k' hR H' s2 o2 tb er => ⟨rfl, ?_⟩⟩
  have z := Rep.after (s := s.at k1) r1 (H' := H') (k := 0) ⟨sb.trans s2, fun a h => (o2 a h).trans (od a h), trivial, (TbK.new hd).trans ((TbK.new (by rw [upd_ne ne.symm]; exact hy)).trans tb)⟩
  exact fn d k1 hR _ H' z.1 (a1.trans z.2) (hK ▸ er)
end
end DL
namespace DL
open PySem L2
open PySem.W (Frag)
end DL
namespace BW
open PySem L2 DL
abbrev Mat := List (List Int)
abbrev tI (xs : List Int) : D := .tup (xs.map .int)
abbrev lI (xs : List Int) : D := .lst (xs.map .int)
abbrev lM (T : Mat) : D := .lst (T.map lI)
abbrev tM (T : Mat) : D := .tup (T.map tI)
def at2 (T : Mat) (i j : Nat) : Int := (T.getD i []).getD j 0
def wts (k : Int) : Int × Int := if k = 2 then (0, 0) else if k = 3 then (1, 1) else if k = 4 then (1, 2) else if k = 6 then (1, 3) else (2, 2)
def wt (T : Mat) (i j : Nat) : Int := if i = j then -2 else if i < j then (wts (at2 T i j)).1 else (wts (at2 T i j)).2
structure Tab (T : Mat) : Prop where
  lo : 1 ≤ T.length
  hi : T.length ≤ 6
  sq : ∀ i, i < T.length → (T.getD i []).length = T.length
  dg : ∀ i, i < T.length → at2 T i i = 1
  of : ∀ i j, i < T.length → j < T.length → i ≠ j → at2 T i j = 2 ∨ at2 T i j = 3 ∨ at2 T i j = 4 ∨ at2 T i j = 6 ∨ at2 T i j = 0
  sy : ∀ i j, i < T.length → j < T.length → at2 T i j = at2 T j i
def press (T : Mat) (row : List Int) (i : Nat) : List Int := (List.range T.length).map fun j => row.getD j 0 + wt T i j * row.getD i 0
def wtr (T : Mat) (i : Nat) : List Int := (List.range T.length).map (wt T i)
def wtM (T : Mat) : Mat := (List.range T.length).map (wtr T)
abbrev bnd (BC : Addr) (T : Mat) : D := .ins BC ["table", "weights"] [tM T, tM (wtM T)]
abbrev ix (a : Int) : Nat := (a - 1).toNat
def Wd (n : Nat) (w : List Int) : Prop := ∀ a ∈ w, 1 ≤ a ∧ a ≤ n
def one (T : Mat) : List Int := List.replicate T.length 1
def row (T : Mat) (w : List Int) : List Int := w.foldl (fun r a => press T r (ix a)) (one T)
def fall (r : List Int) : List Int := ((List.range r.length).filter fun i => decide (r.getD i 0 < 0)).map fun (i : Nat) => (i : Int) + 1
def wd (T : Mat) : Nat → List Int → List Int × List Int
  | 0, r => ([], r)
  | n + 1, r => match fall r with
    | [] => ([], r)
    | a :: _ => (a :: (wd T n (press T r (ix a))).1, (wd T n (press T r (ix a))).2)
def D.isI : D → Bool
  | .int _ => true
  | _ => false
def D.isL (n : Int) : D → Bool
  | .int a => decide (1 ≤ a) && decide (a ≤ n)
  | _ => false
def sp_is_whole : DSp := fun ds k R => ∃ d, ds = [d] ∧ d.tname.isSome = true ∧ R (.bl (D.isI d)) k
def sp_is_letter : DSp := fun ds k R => ∃ d n, ds = [d, .int n] ∧ d.tname.isSome = true ∧ R (.bl (D.isL n d)) k
def sp_can_stand : DSp := fun ds k R => ∃ T a b, ds = [lM T, .int a, .int b] ∧ Tab T ∧ 1 ≤ a ∧ a ≤ T.length ∧ 1 ≤ b ∧ b ≤ T.length ∧ R (.bl true) k
def sp_check_shape : DSp := fun ds k R => ∃ T, ds = [lM T] ∧ Tab T ∧ R .non k
def sp_check_table : DSp := fun ds k R => ∃ T, ds = [lM T] ∧ Tab T ∧ R .non k
def sp_weight_of : DSp := fun ds k R => ∃ T a b, ds = [tM T, .int a, .int b] ∧ Tab T ∧ 1 ≤ a ∧ a ≤ T.length ∧ 1 ≤ b ∧ b ≤ T.length ∧ R (.int (wt T (ix a) (ix b))) k
def sp_weights_from : DSp := fun ds k R => ∃ T a, ds = [tM T, .int a] ∧ Tab T ∧ 1 ≤ a ∧ a ≤ T.length ∧ R (tI (wtr T (ix a))) k
def sp_Bonds (BC : Addr) : DSp := fun ds k R => ∃ T, ds = [lM T] ∧ Tab T ∧ R (bnd BC T) k
def sp_len_Bonds (BC : Addr) : DSp := fun ds k R => ∃ T, ds = [bnd BC T] ∧ T.length ≤ 6 ∧ R (.int T.length) k
def isW (d : D) (w : List Int) : Prop := d = lI w ∨ d = tI w
def sp_as_word : DSp := fun ds k R => ∃ d w, ∃ n : Nat, ds = [d, .int n] ∧ isW d w ∧ w.length ≤ 60 ∧ Wd n w ∧ R (tI w) k
def sp_first_row (BC : Addr) : DSp := fun ds k R => ∃ T, ds = [bnd BC T] ∧ Tab T ∧ R (tI (one T)) k
def sp_pressed (BC : Addr) : DSp := fun ds k R => ∃ T r a, ds = [bnd BC T, tI r, .int a] ∧ Tab T ∧ r.length = T.length ∧ 1 ≤ a ∧ a ≤ T.length ∧ R (tI (press T r (ix a))) k
def sp_row_behind (BC : Addr) : DSp := fun ds k R => ∃ T d w, ds = [bnd BC T, d] ∧ Tab T ∧ isW d w ∧ Wd T.length w ∧ R (tI (row T w)) k
def sp_fallen : DSp := fun ds k R => ∃ r, ds = [tI r] ∧ r.length ≤ 6 ∧ R (tI (fall r)) k
def sp_way_down (BC : Addr) : DSp := fun ds k R => ∃ T r, ds = [bnd BC T, tI r] ∧ Tab T ∧ r.length = T.length ∧ R (.tup [lI (wd T 60 r).1, tI (wd T 60 r).2]) k
def sp_row_of (BC : Addr) : DSp := fun ds k R => ∃ T d w, ds = [bnd BC T, d] ∧ Tab T ∧ isW d w ∧ w.length ≤ 60 ∧ Wd T.length w ∧ R (tI (row T w)) k
def sp__law_mixed : DSp := fun ds k R => ∃ a n : Int, ds = [.int a, .int n] ∧ 0 ≤ a ∧ a < 1000000000000000 ∧ 0 ≤ n ∧ n < 1000000000000 ∧ ∀ r, 0 ≤ r → r < 306783377 → R (.int r) k
def sp__law_draw : DSp := fun ds k R => ∃ z : Int, ds = [.int z] ∧ 0 < z ∧ z < 2 ^ 200 ∧ k < 100000000000 ∧ ∀ d, 0 ≤ d → d < z → R (.int d) (k + 1)
def alt (a b : Int) (n : Nat) : List Int := (List.range n).map fun i => if i % 2 = 0 then a else b
end BW
namespace TT
def sm (f : Nat → Int) : Nat → Int
  | 0 => 0
  | n + 1 => sm f n + f n
theorem sm_congr {f g : Nat → Int} : ∀ {n : Nat}, (∀ j, j < n → f j = g j) → sm f n = sm g n
  | 0, _ => rfl
  | n + 1, h => by
    show sm f n + f n = sm g n + g n
    rw [sm_congr (fun j hj => h j (Nat.lt_succ_of_lt hj)), h n (Nat.lt_succ_self n)]
theorem sm_add {f g : Nat → Int} : ∀ {n : Nat}, sm (fun j => f j + g j) n = sm f n + sm g n
  | 0 => rfl
  | n + 1 => by
    show sm (fun j => f j + g j) n + (f n + g n) = (sm f n + f n) + (sm g n + g n)
    rw [sm_add]; omega
theorem sm_mul {f : Nat → Int} {c : Int} : ∀ {n : Nat}, sm (fun j => c * f j) n = c * sm f n
  | 0 => (Int.mul_zero c).symm
  | n + 1 => by
    show sm (fun j => c * f j) n + c * f n = c * (sm f n + f n)
    rw [sm_mul, Int.mul_add]
theorem sm_zero {f : Nat → Int} : ∀ {n : Nat}, (∀ j, j < n → f j = 0) → sm f n = 0
  | 0, _ => rfl
  | n + 1, h => by
    show sm f n + f n = 0
    rw [sm_zero (fun j hj => h j (Nat.lt_succ_of_lt hj)), h n (Nat.lt_succ_self n)]; rfl
theorem sm_one {f : Nat → Int} {b : Nat} : ∀ {n : Nat}, b < n → (∀ j, j < n → j ≠ b → f j = 0) → sm f n = f b
  | 0, h, _ => absurd h (Nat.not_lt_zero b)
  | n + 1, h, z => by
    show sm f n + f n = f b
    by_cases e : b = n
    · subst e
      rw [sm_zero (fun j hj => z j (Nat.lt_succ_of_lt hj) (Nat.ne_of_lt hj)), Int.zero_add]
    · rw [sm_one (by omega) (fun j hj => z j (Nat.lt_succ_of_lt hj)), z n (Nat.lt_succ_self n) (fun q => e q.symm), Int.add_zero]
abbrev Vec := Nat → Int
structure Car (n : Nat) (W : Nat → Nat → Int) : Prop where
  dg : ∀ i, i < n → W i i = -2
  of : ∀ i j, i < n → j < n → i ≠ j → (W i j = 0 ∧ W j i = 0) ∨ (W i j = 1 ∧ W j i = 1) ∨ (W i j = 1 ∧ W j i = 2) ∨ (W i j = 2 ∧ W j i = 1) ∨ (W i j = 1 ∧ W j i = 3) ∨ (W i j = 3 ∧ W j i = 1) ∨ (W i j = 2 ∧ W j i = 2)
def eb (a : Nat) : Vec := fun j => if j = a then 1 else 0
def mv (x : Vec) (t : Int) (b : Nat) : Vec := fun j => if j = b then x j + t else x j
def pr (n : Nat) (W : Nat → Nat → Int) (b : Nat) (x : Vec) : Int := sm (fun a => W b a * x a) n
def sg (n : Nat) (W : Nat → Nat → Int) (b : Nat) (x : Vec) : Vec := mv x (pr n W b x) b
theorem mv_dif {x : Vec} {t : Int} {b j : Nat} : mv x t b j = x j + t * eb b j := by
  unfold mv eb
  by_cases h : j = b
  · rw [if_pos h, if_pos h, Int.mul_one]
  · rw [if_neg h, if_neg h, Int.mul_zero, Int.add_zero]
theorem sm_eb {f : Nat → Int} {b n : Nat} (h : b < n) : sm (fun j => f j * eb b j) n = f b := by
  rw [sm_one h (fun j _ e => by unfold eb; rw [if_neg e, Int.mul_zero])]
  unfold eb
  rw [if_pos rfl, Int.mul_one]
section
variable {n : Nat} {W : Nat → Nat → Int}
theorem pr_mv {c b : Nat} {x : Vec} {t : Int} (hb : b < n) : pr n W c (mv x t b) = pr n W c x + W c b * t := by
  unfold pr
  rw [sm_congr (g := fun a => W c a * x a + t * (W c a * eb b a)) (fun j _ => by rw [mv_dif, Int.mul_add, Int.mul_left_comm]), sm_add, sm_mul, sm_eb hb, Int.mul_comm t]
theorem sm_mv {b : Nat} {x : Vec} {t : Int} (hb : b < n) : sm (mv x t b) n = sm x n + t := by
  rw [sm_congr (g := fun a => x a + t * (1 * eb b a)) (fun j _ => by rw [mv_dif, Int.one_mul]), sm_add, sm_mul, sm_eb (f := fun _ => 1) hb, Int.mul_one]
theorem pr_eb {a b : Nat} (ha : a < n) : pr n W b (eb a) = W b a := sm_eb ha
theorem mv_mv {x : Vec} {s t : Int} {b : Nat} : mv (mv x s b) t b = mv x (s + t) b := by
  funext j
  unfold mv
  by_cases h : j = b
  · rw [if_pos h, if_pos h, if_pos h, Int.add_assoc]
  · rw [if_neg h, if_neg h, if_neg h]
theorem mv_zero {x : Vec} {b : Nat} : mv x 0 b = x := by
  funext j
  unfold mv
  by_cases h : j = b
  · rw [if_pos h, Int.add_zero]
  · rw [if_neg h]
theorem mv_comm {x : Vec} {s t : Int} {b c : Nat} (h : b ≠ c) : mv (mv x s b) t c = mv (mv x t c) s b := by
  funext j
  unfold mv
  by_cases h1 : j = b
  · subst h1
    rw [if_neg h, if_pos rfl, if_pos rfl, if_neg h]
  · by_cases h2 : j = c
    · subst h2
      rw [if_pos rfl, if_neg h1, if_neg h1, if_pos rfl]
    · rw [if_neg h2, if_neg h1, if_neg h1, if_neg h2]
theorem sg_sg (C : Car n W) {b : Nat} {x : Vec} (hb : b < n) : sg n W b (sg n W b x) = x := by
  unfold sg
  rw [pr_mv hb, C.dg b hb, mv_mv]
  rw [show pr n W b x + (pr n W b x + -2 * pr n W b x) = 0 by omega, mv_zero]
theorem pr_sg (C : Car n W) {b : Nat} {x : Vec} (hb : b < n) : pr n W b (sg n W b x) = - pr n W b x := by
  unfold sg
  rw [pr_mv hb, C.dg b hb]
  omega
inductive Pos (n : Nat) (W : Nat → Nat → Int) : Vec → Prop
  | eb {a : Nat} : a < n → Pos n W (eb a)
  | up {x : Vec} {b : Nat} : Pos n W x → b < n → 0 < pr n W b x → Pos n W (sg n W b x)
theorem Pos.nn {x : Vec} (h : Pos n W x) : ∀ j, 0 ≤ x j := by
  induction h with
  | eb ha => intro j; unfold TT.eb; split <;> decide
  | up h hb hp ih =>
    intro j
    have := ih j
    unfold sg mv
    split <;> omega
theorem Pos.ht {x : Vec} (h : Pos n W x) : 1 ≤ sm x n := by
  induction h with
  | eb ha =>
    rename_i a
    have : sm (TT.eb a) n = 1 := by
      have := sm_eb (f := fun _ => (1 : Int)) ha
      simpa using this
    omega
  | up h hb hp ih =>
    unfold sg
    rw [sm_mv hb]
    omega
end
theorem r2_00 {A Eb : Int → Int → Prop} {P Q : Int} (hP : P < 0) (hQ : Q < 0) (R1 : ∀ s t s', A s t → s + t < 0 → P - 2 * s + 0 * t < 0 → s' = s + (P - 2 * s + 0 * t) → (P - 2 * s + 0 * t = -2 ∧ Q + 0 * s - 2 * t = 0 ∧ Eb s t) ∨ A s' t)
    (R2 : ∀ s t t', A s t → s + t < 0 → Q + 0 * s - 2 * t < 0 → t' = t + (Q + 0 * s - 2 * t) → (Q + 0 * s - 2 * t = -2 ∧ P - 2 * s + 0 * t = 0) ∨ A s t') (U1 : ∀ s t s', A s t → 0 < P - 2 * s + 0 * t → s' = s + (P - 2 * s + 0 * t) → A s' t) (U2 : ∀ s t t', A s t → 0 < Q + 0 * s - 2 * t → t' = t + (Q + 0 * s - 2 * t) → A s t') (A0 : A 0 Q) : A P 0 := by
  have h0 : A (0 * P + 0 * Q) (0 * P + 1 * Q) := by rw [show (0 * P + 0 * Q) = (0 : Int) by omega, show (0 * P + 1 * Q) = Q by omega]; exact A0
  rcases R1 (0 * P + 0 * Q) (0 * P + 1 * Q) (1 * P + 0 * Q) h0 (by omega) (by omega) (by omega) with ⟨_, _, _⟩ | h1
  · omega
  have h2 := U2 (1 * P + 0 * Q) (0 * P + 1 * Q) (0 * P + 0 * Q) h1 (by omega) (by omega)
  rw [show (1 * P + 0 * Q) = P by omega, show (0 * P + 0 * Q) = (0 : Int) by omega] at h2
  exact h2
theorem r2_11 {A Eb : Int → Int → Prop} {P Q : Int} (hP : P < 0) (hQ : Q < 0) (R1 : ∀ s t s', A s t → s + t < 0 → P - 2 * s + 1 * t < 0 → s' = s + (P - 2 * s + 1 * t) → (P - 2 * s + 1 * t = -2 ∧ Q + 1 * s - 2 * t = 1 ∧ Eb s t) ∨ A s' t)
    (R2 : ∀ s t t', A s t → s + t < 0 → Q + 1 * s - 2 * t < 0 → t' = t + (Q + 1 * s - 2 * t) → (Q + 1 * s - 2 * t = -2 ∧ P - 2 * s + 1 * t = 1) ∨ A s t') (U1 : ∀ s t s', A s t → 0 < P - 2 * s + 1 * t → s' = s + (P - 2 * s + 1 * t) → A s' t) (U2 : ∀ s t t', A s t → 0 < Q + 1 * s - 2 * t → t' = t + (Q + 1 * s - 2 * t) → A s t') (A0 : A 0 Q) (X : Eb 0 Q → A P 0) : A P 0 := by
  have h0 : A (0 * P + 0 * Q) (0 * P + 1 * Q) := by rw [show (0 * P + 0 * Q) = (0 : Int) by omega, show (0 * P + 1 * Q) = Q by omega]; exact A0
  rcases R1 (0 * P + 0 * Q) (0 * P + 1 * Q) (1 * P + 1 * Q) h0 (by omega) (by omega) (by omega) with ⟨_, _, e⟩ | h1
  · rw [show (0 * P + 0 * Q) = (0 : Int) by omega, show (0 * P + 1 * Q) = Q by omega] at e; exact X e
  rcases R2 (1 * P + 1 * Q) (0 * P + 1 * Q) (1 * P + 1 * Q) h1 (by omega) (by omega) (by omega) with ⟨_, _⟩ | h2
  · omega
  have h3 := U1 (1 * P + 1 * Q) (1 * P + 1 * Q) (1 * P + 0 * Q) h2 (by omega) (by omega)
  have h4 := U2 (1 * P + 0 * Q) (1 * P + 1 * Q) (0 * P + 0 * Q) h3 (by omega) (by omega)
  rw [show (1 * P + 0 * Q) = P by omega, show (0 * P + 0 * Q) = (0 : Int) by omega] at h4
  exact h4
theorem r2_12 {A Eb : Int → Int → Prop} {P Q : Int} (hP : P < 0) (hQ : Q < 0) (R1 : ∀ s t s', A s t → s + t < 0 → P - 2 * s + 1 * t < 0 → s' = s + (P - 2 * s + 1 * t) → (P - 2 * s + 1 * t = -2 ∧ Q + 2 * s - 2 * t = 2 ∧ Eb s t) ∨ A s' t)
    (R2 : ∀ s t t', A s t → s + t < 0 → Q + 2 * s - 2 * t < 0 → t' = t + (Q + 2 * s - 2 * t) → (Q + 2 * s - 2 * t = -2 ∧ P - 2 * s + 1 * t = 1) ∨ A s t') (U1 : ∀ s t s', A s t → 0 < P - 2 * s + 1 * t → s' = s + (P - 2 * s + 1 * t) → A s' t) (U2 : ∀ s t t', A s t → 0 < Q + 2 * s - 2 * t → t' = t + (Q + 2 * s - 2 * t) → A s t') (A0 : A 0 Q) : A P 0 := by
  have h0 : A (0 * P + 0 * Q) (0 * P + 1 * Q) := by rw [show (0 * P + 0 * Q) = (0 : Int) by omega, show (0 * P + 1 * Q) = Q by omega]; exact A0
  rcases R1 (0 * P + 0 * Q) (0 * P + 1 * Q) (1 * P + 1 * Q) h0 (by omega) (by omega) (by omega) with ⟨_, _, _⟩ | h1
  · omega
  rcases R2 (1 * P + 1 * Q) (0 * P + 1 * Q) (2 * P + 2 * Q) h1 (by omega) (by omega) (by omega) with ⟨_, _⟩ | h2
  · omega
  rcases R1 (1 * P + 1 * Q) (2 * P + 2 * Q) (2 * P + 1 * Q) h2 (by omega) (by omega) (by omega) with ⟨_, _, _⟩ | h3
  · omega
  have h4 := U2 (2 * P + 1 * Q) (2 * P + 2 * Q) (2 * P + 1 * Q) h3 (by omega) (by omega)
  have h5 := U1 (2 * P + 1 * Q) (2 * P + 1 * Q) (1 * P + 0 * Q) h4 (by omega) (by omega)
  have h6 := U2 (1 * P + 0 * Q) (2 * P + 1 * Q) (0 * P + 0 * Q) h5 (by omega) (by omega)
  rw [show (1 * P + 0 * Q) = P by omega, show (0 * P + 0 * Q) = (0 : Int) by omega] at h6
  exact h6
theorem r2_21 {A Eb : Int → Int → Prop} {P Q : Int} (hP : P < 0) (hQ : Q < 0) (R1 : ∀ s t s', A s t → s + t < 0 → P - 2 * s + 2 * t < 0 → s' = s + (P - 2 * s + 2 * t) → (P - 2 * s + 2 * t = -2 ∧ Q + 1 * s - 2 * t = 1 ∧ Eb s t) ∨ A s' t)
    (R2 : ∀ s t t', A s t → s + t < 0 → Q + 1 * s - 2 * t < 0 → t' = t + (Q + 1 * s - 2 * t) → (Q + 1 * s - 2 * t = -2 ∧ P - 2 * s + 2 * t = 2) ∨ A s t') (U1 : ∀ s t s', A s t → 0 < P - 2 * s + 2 * t → s' = s + (P - 2 * s + 2 * t) → A s' t) (U2 : ∀ s t t', A s t → 0 < Q + 1 * s - 2 * t → t' = t + (Q + 1 * s - 2 * t) → A s t') (A0 : A 0 Q) : A P 0 := by
  have h0 : A (0 * P + 0 * Q) (0 * P + 1 * Q) := by rw [show (0 * P + 0 * Q) = (0 : Int) by omega, show (0 * P + 1 * Q) = Q by omega]; exact A0
  rcases R1 (0 * P + 0 * Q) (0 * P + 1 * Q) (1 * P + 2 * Q) h0 (by omega) (by omega) (by omega) with ⟨_, _, _⟩ | h1
  · omega
  rcases R2 (1 * P + 2 * Q) (0 * P + 1 * Q) (1 * P + 2 * Q) h1 (by omega) (by omega) (by omega) with ⟨_, _⟩ | h2
  · omega
  rcases R1 (1 * P + 2 * Q) (1 * P + 2 * Q) (2 * P + 2 * Q) h2 (by omega) (by omega) (by omega) with ⟨_, _, _⟩ | h3
  · omega
  have h4 := U2 (2 * P + 2 * Q) (1 * P + 2 * Q) (1 * P + 1 * Q) h3 (by omega) (by omega)
  have h5 := U1 (2 * P + 2 * Q) (1 * P + 1 * Q) (1 * P + 0 * Q) h4 (by omega) (by omega)
  have h6 := U2 (1 * P + 0 * Q) (1 * P + 1 * Q) (0 * P + 0 * Q) h5 (by omega) (by omega)
  rw [show (1 * P + 0 * Q) = P by omega, show (0 * P + 0 * Q) = (0 : Int) by omega] at h6
  exact h6
theorem r2_13 {A Eb : Int → Int → Prop} {P Q : Int} (hP : P < 0) (hQ : Q < 0) (R1 : ∀ s t s', A s t → s + t < 0 → P - 2 * s + 1 * t < 0 → s' = s + (P - 2 * s + 1 * t) → (P - 2 * s + 1 * t = -2 ∧ Q + 3 * s - 2 * t = 3 ∧ Eb s t) ∨ A s' t)
    (R2 : ∀ s t t', A s t → s + t < 0 → Q + 3 * s - 2 * t < 0 → t' = t + (Q + 3 * s - 2 * t) → (Q + 3 * s - 2 * t = -2 ∧ P - 2 * s + 1 * t = 1) ∨ A s t') (U1 : ∀ s t s', A s t → 0 < P - 2 * s + 1 * t → s' = s + (P - 2 * s + 1 * t) → A s' t) (U2 : ∀ s t t', A s t → 0 < Q + 3 * s - 2 * t → t' = t + (Q + 3 * s - 2 * t) → A s t') (A0 : A 0 Q) : A P 0 := by
  have h0 : A (0 * P + 0 * Q) (0 * P + 1 * Q) := by rw [show (0 * P + 0 * Q) = (0 : Int) by omega, show (0 * P + 1 * Q) = Q by omega]; exact A0
  rcases R1 (0 * P + 0 * Q) (0 * P + 1 * Q) (1 * P + 1 * Q) h0 (by omega) (by omega) (by omega) with ⟨_, _, _⟩ | h1
  · omega
  rcases R2 (1 * P + 1 * Q) (0 * P + 1 * Q) (3 * P + 3 * Q) h1 (by omega) (by omega) (by omega) with ⟨_, _⟩ | h2
  · omega
  rcases R1 (1 * P + 1 * Q) (3 * P + 3 * Q) (3 * P + 2 * Q) h2 (by omega) (by omega) (by omega) with ⟨_, _, _⟩ | h3
  · omega
  rcases R2 (3 * P + 2 * Q) (3 * P + 3 * Q) (6 * P + 4 * Q) h3 (by omega) (by omega) (by omega) with ⟨_, _⟩ | h4
  · omega
  rcases R1 (3 * P + 2 * Q) (6 * P + 4 * Q) (4 * P + 2 * Q) h4 (by omega) (by omega) (by omega) with ⟨_, _, _⟩ | h5
  · omega
  have h6 := U2 (4 * P + 2 * Q) (6 * P + 4 * Q) (6 * P + 3 * Q) h5 (by omega) (by omega)
  have h7 := U1 (4 * P + 2 * Q) (6 * P + 3 * Q) (3 * P + 1 * Q) h6 (by omega) (by omega)
  have h8 := U2 (3 * P + 1 * Q) (6 * P + 3 * Q) (3 * P + 1 * Q) h7 (by omega) (by omega)
  have h9 := U1 (3 * P + 1 * Q) (3 * P + 1 * Q) (1 * P + 0 * Q) h8 (by omega) (by omega)
  have h10 := U2 (1 * P + 0 * Q) (3 * P + 1 * Q) (0 * P + 0 * Q) h9 (by omega) (by omega)
  rw [show (1 * P + 0 * Q) = P by omega, show (0 * P + 0 * Q) = (0 : Int) by omega] at h10
  exact h10
theorem r2_31 {A Eb : Int → Int → Prop} {P Q : Int} (hP : P < 0) (hQ : Q < 0) (R1 : ∀ s t s', A s t → s + t < 0 → P - 2 * s + 3 * t < 0 → s' = s + (P - 2 * s + 3 * t) → (P - 2 * s + 3 * t = -2 ∧ Q + 1 * s - 2 * t = 1 ∧ Eb s t) ∨ A s' t)
    (R2 : ∀ s t t', A s t → s + t < 0 → Q + 1 * s - 2 * t < 0 → t' = t + (Q + 1 * s - 2 * t) → (Q + 1 * s - 2 * t = -2 ∧ P - 2 * s + 3 * t = 3) ∨ A s t') (U1 : ∀ s t s', A s t → 0 < P - 2 * s + 3 * t → s' = s + (P - 2 * s + 3 * t) → A s' t) (U2 : ∀ s t t', A s t → 0 < Q + 1 * s - 2 * t → t' = t + (Q + 1 * s - 2 * t) → A s t') (A0 : A 0 Q) : A P 0 := by
  have h0 : A (0 * P + 0 * Q) (0 * P + 1 * Q) := by rw [show (0 * P + 0 * Q) = (0 : Int) by omega, show (0 * P + 1 * Q) = Q by omega]; exact A0
  rcases R1 (0 * P + 0 * Q) (0 * P + 1 * Q) (1 * P + 3 * Q) h0 (by omega) (by omega) (by omega) with ⟨_, _, _⟩ | h1
  · omega
  rcases R2 (1 * P + 3 * Q) (0 * P + 1 * Q) (1 * P + 3 * Q) h1 (by omega) (by omega) (by omega) with ⟨_, _⟩ | h2
  · omega
  rcases R1 (1 * P + 3 * Q) (1 * P + 3 * Q) (3 * P + 6 * Q) h2 (by omega) (by omega) (by omega) with ⟨_, _, _⟩ | h3
  · omega
  rcases R2 (3 * P + 6 * Q) (1 * P + 3 * Q) (2 * P + 4 * Q) h3 (by omega) (by omega) (by omega) with ⟨_, _⟩ | h4
  · omega
  rcases R1 (3 * P + 6 * Q) (2 * P + 4 * Q) (4 * P + 6 * Q) h4 (by omega) (by omega) (by omega) with ⟨_, _, _⟩ | h5
  · omega
  have h6 := U2 (4 * P + 6 * Q) (2 * P + 4 * Q) (2 * P + 3 * Q) h5 (by omega) (by omega)
  have h7 := U1 (4 * P + 6 * Q) (2 * P + 3 * Q) (3 * P + 3 * Q) h6 (by omega) (by omega)
  have h8 := U2 (3 * P + 3 * Q) (2 * P + 3 * Q) (1 * P + 1 * Q) h7 (by omega) (by omega)
  have h9 := U1 (3 * P + 3 * Q) (1 * P + 1 * Q) (1 * P + 0 * Q) h8 (by omega) (by omega)
  have h10 := U2 (1 * P + 0 * Q) (1 * P + 1 * Q) (0 * P + 0 * Q) h9 (by omega) (by omega)
  rw [show (1 * P + 0 * Q) = P by omega, show (0 * P + 0 * Q) = (0 : Int) by omega] at h10
  exact h10
section
variable {n : Nat} {W : Nat → Nat → Int}
theorem W_nn (C : Car n W) {a b : Nat} (ha : a < n) (hb : b < n) (h : a ≠ b) : 0 ≤ W a b := by
  rcases C.of a b ha hb h with h | h | h | h | h | h | h <;> omega
theorem no_inf (C : Car n W) {b c : Nat} (hb : b < n) (hc : c < n) (hbc : W b c = 2) (hcb : W c b = 2) {N : Nat} (IH : ∀ x, Pos n W x → sm x n < N → ∀ b, b < n → x = eb b ∨ Pos n W (sg n W b x)) :
    ∀ (k : Nat) (z : Vec), Pos n W z → sm z n < N → sm z n < k → pr n W b z + pr n W c z < 0 → False
  | 0, z, hz, _, hk, _ => by have := hz.ht; omega
  | k + 1, z, hz, hN, hk, hs => by
    by_cases h : pr n W b z < 0
    · rcases IH z hz hN b hb with e | h2
      · rw [e, pr_eb hb, pr_eb hb, C.dg b hb, hcb] at hs
        omega
      · refine no_inf C hb hc hbc hcb IH k _ h2 ?_ ?_ ?_
        · unfold sg; rw [sm_mv hb]; omega
        · unfold sg; rw [sm_mv hb]; omega
        · rw [pr_sg C hb]
          unfold sg
          rw [pr_mv hb, hcb]
          omega
    · have h : pr n W c z < 0 := by omega
      rcases IH z hz hN c hc with e | h2
      · rw [e, pr_eb hc, pr_eb hc, C.dg c hc, hbc] at hs
        omega
      · refine no_inf C hb hc hbc hcb IH k _ h2 ?_ ?_ ?_
        · unfold sg; rw [sm_mv hc]; omega
        · unfold sg; rw [sm_mv hc]; omega
        · rw [pr_sg C hc]
          unfold sg
          rw [pr_mv hc, hbc]
          omega
abbrev VV (x : Vec) (b c : Nat) (s t : Int) : Vec := mv (mv x s b) t c
theorem pos_sg (C : Car n W) : ∀ (N : Nat) (x : Vec), Pos n W x → sm x n < N → ∀ b, b < n → x = eb b ∨ Pos n W (sg n W b x)
  | 0, x, hx, h, _, _ => by have := hx.ht; omega
  | N + 1, x, hx, hN, b, hb => by
    by_cases p1 : 0 < pr n W b x
    · exact .inr (.up hx hb p1)
    by_cases p2 : pr n W b x = 0
    · right
      unfold sg
      rw [p2, mv_zero]
      exact hx
    have hP : pr n W b x < 0 := by omega
    cases hx with
    | eb ha =>
      rename_i a
      rw [pr_eb ha] at hP
      by_cases e : b = a
      · exact .inl (by rw [e])
      · have := W_nn C hb ha e
        omega
    | up hy hc hq =>
      rename_i y c
      by_cases e : c = b
      · subst e
        right
        rw [sg_sg C hc]
        exact hy
      · have hx : Pos n W (sg n W c y) := .up hy hc hq
        have ey : y = sg n W c (sg n W c y) := (sg_sg C hc).symm
        have hQ : pr n W c (sg n W c y) < 0 := by rw [pr_sg C hc]; omega
        have hyx : sm y n < sm (sg n W c y) n := by unfold sg; rw [sm_mv hc]; omega
        rw [ey] at hy
        rw [ey] at hyx
        rw [sg_sg C hc] at hyx
        clear hq
        generalize hX : sg n W c y = x at *
        clear hX ey
        generalize hPP : pr n W b x = P at *
        generalize hQQ : pr n W c x = Q at *
        have IH := pos_sg C N
        right
        have nbc : b ≠ c := fun z => e z.symm
        have ne : c ≠ b := e
        have hV : ∀ s t, pr n W b (VV x b c s t) = P - 2 * s + W b c * t := fun s t => by
          rw [pr_mv hc, pr_mv hb, C.dg b hb, hPP]; omega
        have hW : ∀ s t, pr n W c (VV x b c s t) = Q + W c b * s - 2 * t := fun s t => by
          rw [pr_mv hc, pr_mv hb, C.dg c hc, hQQ]; omega
        have hS : ∀ s t, sm (VV x b c s t) n = sm x n + s + t := fun s t => by rw [sm_mv hc, sm_mv hb]
        have hB : ∀ s t, sg n W b (VV x b c s t) = VV x b c (s + (P - 2 * s + W b c * t)) t := fun s t => by
          unfold sg
          rw [hV, mv_comm ne, mv_mv]
        have hC : ∀ s t, sg n W c (VV x b c s t) = VV x b c s (t + (Q + W c b * s - 2 * t)) := fun s t => by
          unfold sg
          rw [hW, mv_mv]
        have e0 : sg n W c x = VV x b c 0 Q := by
          show mv x _ c = mv (mv x 0 b) Q c
          rw [mv_zero, hQQ]
        have e1 : sg n W b x = VV x b c P 0 := by
          show mv x _ b = mv (mv x P b) 0 c
          rw [mv_zero, hPP]
        rw [e0] at hy
        rw [e1]
        have R1 : ∀ s t s', Pos n W (VV x b c s t) → s + t < 0 → P - 2 * s + W b c * t < 0 → s' = s + (P - 2 * s + W b c * t) → (P - 2 * s + W b c * t = -2 ∧ Q + W c b * s - 2 * t = W c b ∧ VV x b c s t = eb b) ∨ Pos n W (VV x b c s' t) := fun s t s' h1 h2 h3 h4 => by
          rcases IH _ h1 (by rw [hS]; omega) b hb with h | h
          · left
            refine ⟨?_, ?_, h⟩
            · rw [← hV, h, pr_eb hb, C.dg b hb]
            · rw [← hW, h, pr_eb hb]
          · right
            rw [hB] at h
            rw [h4]
            exact h
        have R2 : ∀ s t t', Pos n W (VV x b c s t) → s + t < 0 → Q + W c b * s - 2 * t < 0 → t' = t + (Q + W c b * s - 2 * t) → (Q + W c b * s - 2 * t = -2 ∧ P - 2 * s + W b c * t = W b c) ∨ Pos n W (VV x b c s t') := fun s t t' h1 h2 h3 h4 => by
          rcases IH _ h1 (by rw [hS]; omega) c hc with h | h
          · left
            refine ⟨?_, ?_⟩
            · rw [← hW, h, pr_eb hc, C.dg c hc]
            · rw [← hV, h, pr_eb hc]
          · right
            rw [hC] at h
            rw [h4]
            exact h
        have U1 : ∀ s t s', Pos n W (VV x b c s t) → 0 < P - 2 * s + W b c * t → s' = s + (P - 2 * s + W b c * t) → Pos n W (VV x b c s' t) := fun s t s' h1 h2 h3 => by
          have := Pos.up h1 hb (by rw [hV]; exact h2)
          rw [hB] at this
          rw [h3]
          exact this
        have U2 : ∀ s t t', Pos n W (VV x b c s t) → 0 < Q + W c b * s - 2 * t → t' = t + (Q + W c b * s - 2 * t) → Pos n W (VV x b c s t') := fun s t t' h1 h2 h3 => by
          have := Pos.up h1 hc (by rw [hW]; exact h2)
          rw [hC] at this
          rw [h3]
          exact this
        rcases C.of b c hb hc nbc with ⟨u, v⟩ | ⟨u, v⟩ | ⟨u, v⟩ | ⟨u, v⟩ | ⟨u, v⟩ | ⟨u, v⟩ | ⟨u, v⟩
        · rw [u] at R1 R2 U1; rw [v] at R1 R2 U2; exact r2_00 (A := fun s t => Pos n W (VV x b c s t)) hP hQ R1 R2 U1 U2 hy
        · rw [u] at R1 R2 U1; rw [v] at R1 R2 U2
          refine r2_11 (A := fun s t => Pos n W (VV x b c s t)) hP hQ R1 R2 U1 U2 hy fun h => ?_
          have hv := hV 0 Q
          have hw := hW 0 Q
          rw [h, pr_eb hb, C.dg b hb, u] at hv
          rw [h, pr_eb hb, v] at hw
          have ec : VV x b c P 0 = eb c := by
            funext j
            have hj := congrFun h j
            unfold VV mv eb at hj
            unfold VV mv eb
            by_cases j1 : j = b
            · subst j1
              rw [if_neg nbc, if_pos rfl, if_pos rfl] at hj
              rw [if_neg nbc, if_pos rfl, if_neg nbc]
              omega
            · by_cases j2 : j = c
              · subst j2
                rw [if_pos rfl, if_neg ne, if_neg ne] at hj
                rw [if_pos rfl, if_neg ne, if_pos rfl]
                omega
              · rw [if_neg j2, if_neg j1, if_neg j1] at hj
                rw [if_neg j2, if_neg j1, if_neg j2]
                exact hj
          show Pos n W (VV x b c P 0)
          rw [ec]
          exact .eb hc
        · rw [u] at R1 R2 U1; rw [v] at R1 R2 U2; exact r2_12 (A := fun s t => Pos n W (VV x b c s t)) hP hQ R1 R2 U1 U2 hy
        · rw [u] at R1 R2 U1; rw [v] at R1 R2 U2; exact r2_21 (A := fun s t => Pos n W (VV x b c s t)) hP hQ R1 R2 U1 U2 hy
        · rw [u] at R1 R2 U1; rw [v] at R1 R2 U2; exact r2_13 (A := fun s t => Pos n W (VV x b c s t)) hP hQ R1 R2 U1 U2 hy
        · rw [u] at R1 R2 U1; rw [v] at R1 R2 U2; exact r2_31 (A := fun s t => Pos n W (VV x b c s t)) hP hQ R1 R2 U1 U2 hy
        · refine (no_inf C hb hc u v IH N _ hy ?_ ?_ ?_).elim
          · rw [hS]; omega
          · rw [hS]; omega
          · rw [hV, hW, u, v]; omega
end
end TT
namespace TT
def lc (x : Vec) (t : Int) (y : Vec) : Vec := fun j => x j + t * y j
def zv : Vec := fun _ => 0
def neg (x : Vec) : Vec := lc zv (-1) x
theorem neg_at {x : Vec} {j : Nat} : neg x j = - x j := by unfold neg lc zv; omega
theorem neg_neg {x : Vec} : neg (neg x) = x := by funext j; rw [neg_at, neg_at]; omega
theorem mv_lc {x : Vec} {t : Int} {b : Nat} : mv x t b = lc x t (eb b) := by funext j; exact mv_dif
section
variable {n : Nat} {W : Nat → Nat → Int}
theorem sm_lc {x y : Vec} {t : Int} : sm (lc x t y) n = sm x n + t * sm y n := by
  show sm (fun j => x j + t * y j) n = _
  rw [sm_add, sm_mul]
theorem pr_lc {b : Nat} {x y : Vec} {t : Int} : pr n W b (lc x t y) = pr n W b x + t * pr n W b y := by
  unfold pr lc
  rw [sm_congr (g := fun a => W b a * x a + t * (W b a * y a)) (fun j _ => by rw [Int.mul_add, Int.mul_left_comm]), sm_add, sm_mul]
theorem sg_lc {b : Nat} {x y : Vec} {t : Int} : sg n W b (lc x t y) = lc (sg n W b x) t (sg n W b y) := by
  funext j
  unfold sg
  rw [pr_lc]
  unfold mv lc
  dsimp only
  by_cases h : j = b
  · rw [if_pos h, if_pos h, if_pos h, Int.mul_add]; omega
  · rw [if_neg h, if_neg h, if_neg h]
def act (n : Nat) (W : Nat → Nat → Int) (w : List Nat) (x : Vec) : Vec := w.foldr (sg n W) x
def lets (n : Nat) (w : List Nat) : Prop := ∀ a ∈ w, a < n
theorem act_app {u v : List Nat} {x : Vec} : act n W (u ++ v) x = act n W u (act n W v x) := by unfold act; rw [List.foldr_append]
theorem act_lc {x y : Vec} {t : Int} : ∀ {w : List Nat}, act n W w (lc x t y) = lc (act n W w x) t (act n W w y)
  | [] => rfl
  | b :: w => by
    show sg n W b (act n W w _) = _
    rw [act_lc, sg_lc]; rfl
theorem lc_zz {t : Int} : lc zv t zv = zv := by funext j; unfold lc zv; omega
theorem sg_zv {b : Nat} : sg n W b zv = zv := by
  unfold sg
  rw [show pr n W b zv = 0 from sm_zero fun j _ => by unfold zv; omega, mv_zero]
theorem act_zv : ∀ {w : List Nat}, act n W w zv = zv
  | [] => rfl
  | b :: w => by
    show sg n W b (act n W w zv) = zv
    rw [act_zv, sg_zv]
theorem act_neg {w : List Nat} {x : Vec} : act n W w (neg x) = neg (act n W w x) := by
  unfold neg
  rw [act_lc, act_zv]
theorem sg_neg {b : Nat} {x : Vec} : sg n W b (neg x) = neg (sg n W b x) := act_neg (w := [b])
theorem sg_eb (C : Car n W) {b : Nat} (hb : b < n) : sg n W b (eb b) = neg (eb b) := by
  funext j
  unfold sg
  rw [pr_eb hb, C.dg b hb, mv_dif, neg_at]
  omega
def supp (n : Nat) (x : Vec) : Prop := ∀ j, n ≤ j → x j = 0
theorem supp_eb {a : Nat} (h : a < n) : supp n (eb a) := fun j hj => by unfold eb; rw [if_neg (by omega)]
theorem supp_sg {b : Nat} {x : Vec} (hb : b < n) (h : supp n x) : supp n (sg n W b x) := fun j hj => by
  unfold sg mv
  rw [if_neg (by omega)]
  exact h j hj
theorem supp_act {x : Vec} (h : supp n x) : ∀ {w : List Nat}, lets n w → supp n (act n W w x)
  | [], _ => h
  | b :: w, l => supp_sg (l b List.mem_cons_self) (supp_act h fun a ha => l a (List.mem_cons_of_mem _ ha))
theorem lets_app {u v : List Nat} : lets n (u ++ v) ↔ lets n u ∧ lets n v := by
  unfold lets
  constructor
  · exact fun h => ⟨fun a ha => h a (List.mem_append_left _ ha), fun a ha => h a (List.mem_append_right _ ha)⟩
  · exact fun h a ha => (List.mem_append.mp ha).elim (h.1 a) (h.2 a)
theorem lets_rev {u : List Nat} : lets n u.reverse ↔ lets n u := by
  unfold lets
  constructor
  · exact fun h a ha => h a (List.mem_reverse.mpr ha)
  · exact fun h a ha => h a (List.mem_reverse.mp ha)
theorem act_rev (C : Car n W) {x : Vec} : ∀ {w : List Nat}, lets n w → act n W w.reverse (act n W w x) = x
  | [], _ => rfl
  | b :: w, l => by
    rw [List.reverse_cons, act_app]
    show act n W w.reverse (sg n W b (sg n W b (act n W w x))) = x
    rw [sg_sg C (l b List.mem_cons_self)]
    exact act_rev C fun a ha => l a (List.mem_cons_of_mem _ ha)
theorem act_rev2 (C : Car n W) {x : Vec} {w : List Nat} (l : lets n w) : act n W w (act n W w.reverse x) = x := by
  have := act_rev C (x := x) (w := w.reverse) (lets_rev.mpr l)
  rw [List.reverse_reverse] at this
  exact this
theorem pos_sg1 (C : Car n W) {x : Vec} (h : Pos n W x) {b : Nat} (hb : b < n) : x = eb b ∨ Pos n W (sg n W b x) := pos_sg C ((sm x n).toNat + 1) x h (by omega) b hb
theorem sm_neg {x : Vec} : sm (neg x) n = - sm x n := by
  unfold neg
  rw [sm_lc, show sm zv n = 0 from sm_zero fun _ _ => rfl]
  omega
theorem not_both {x : Vec} (h : Pos n W x) (h2 : Pos n W (neg x)) : False := by
  have := h.ht
  have := h2.ht
  rw [sm_neg] at this
  omega
theorem sp_act (C : Car n W) {a : Nat} (ha : a < n) : ∀ {w : List Nat}, lets n w → Pos n W (act n W w (eb a)) ∨ Pos n W (neg (act n W w (eb a)))
  | [], _ => .inl (.eb ha)
  | b :: w, l => by
    have hb := l b List.mem_cons_self
    show Pos n W (sg n W b (act n W w (eb a))) ∨ Pos n W (neg (sg n W b (act n W w (eb a))))
    rcases sp_act C ha (w := w) fun a ha => l a (List.mem_cons_of_mem _ ha) with h | h
    · rcases pos_sg1 C h hb with e | h
      · rw [e, sg_eb C hb, neg_neg]
        exact .inr (.eb hb)
      · exact .inl h
    · rw [← sg_neg]
      rcases pos_sg1 C h hb with e | h
      · have e2 : act n W w (eb a) = neg (eb b) := by rw [← e, neg_neg]
        rw [e2, sg_neg, sg_eb C hb, neg_neg]
        exact .inl (.eb hb)
      · exact .inr h
theorem exch (C : Car n W) {a : Nat} (ha : a < n) : ∀ {w : List Nat}, lets n w → Pos n W (neg (act n W w (eb a))) → ∃ u b v, w = u ++ b :: v ∧ act n W v (eb a) = eb b
  | [], _, h => by
    have := h.nn a
    rw [neg_at] at this
    have e : act n W [] (eb a) a = 1 := by show eb a a = 1; unfold eb; rw [if_pos rfl]
    omega
  | b :: w, l, h => by
    have hb := l b List.mem_cons_self
    have lw : lets n w := fun a ha => l a (List.mem_cons_of_mem _ ha)
    rcases sp_act C ha lw with h1 | h1
    · rcases pos_sg1 C h1 hb with e | h2
      · exact ⟨[], b, w, rfl, e⟩
      · exact (not_both h2 h).elim
    · obtain ⟨u, b', v, e, e2⟩ := exch C ha lw h1
      exact ⟨b :: u, b', v, by rw [e]; rfl, e2⟩
theorem lin_ext {F : Vec → Int} (hl : ∀ x t y, F (lc x t y) = F x + t * F y) (he : ∀ c, c < n → F (eb c) = 0) : ∀ (m : Nat), m ≤ n → ∀ x : Vec, (∀ j, m ≤ j → x j = 0) → F x = 0
  | 0, _, x, h => by
    have e : x = zv := by funext j; exact h j (Nat.zero_le j)
    have := hl zv (-1) zv
    rw [lc_zz] at this
    rw [e]
    omega
  | m + 1, hm, x, h => by
    have e : x = lc (fun j => if j = m then 0 else x j) (x m) (eb m) := by
      funext j
      unfold lc eb
      dsimp only
      by_cases q : j = m
      · subst q
        rw [if_pos rfl, if_pos rfl]; omega
      · rw [if_neg q, if_neg q]; omega
    rw [e, hl, he m (by omega), lin_ext hl he m (by omega) (fun j => if j = m then 0 else x j) fun j hj => ?_]
    · omega
    · by_cases q : j = m
      · rw [if_pos q]
      · rw [if_neg q]
        exact h j (by omega)
theorem lin_eq {F G : Vec → Int} (hF : ∀ x t y, F (lc x t y) = F x + t * F y) (hG : ∀ x t y, G (lc x t y) = G x + t * G y) (he : ∀ c, c < n → F (eb c) = G (eb c)) {x : Vec} (hx : supp n x) : F x = G x := by
  have := lin_ext (n := n) (F := fun x => F x - G x) (fun x t y => by rw [hF, hG, Int.mul_sub]; omega) (fun c hc => by rw [he c hc]; omega) n (Nat.le_refl n) x hx
  omega
theorem conj (C : Car n W) {v : List Nat} {a b : Nat} (ha : a < n) (hb : b < n) (l : lets n v) (h : act n W v (eb a) = eb b) {x : Vec} (hx : supp n x) : sg n W b (act n W v (sg n W a x)) = act n W v x := by
  have sga : ∀ y, sg n W a y = lc y (pr n W a y) (eb a) := fun y => mv_lc
  have sgb : ∀ y, sg n W b y = lc y (pr n W b y) (eb b) := fun y => mv_lc
  have lr := lets_rev.mpr l
  have gx : ∀ y, act n W v (sg n W a (act n W v.reverse y)) = lc y (pr n W a (act n W v.reverse y)) (eb b) := fun y => by
    rw [sga, act_lc, h, act_rev2 C l]
  have fb : pr n W a (act n W v.reverse (eb b)) = -2 := by rw [← h, act_rev C l, pr_eb ha, C.dg a ha]
  have fl : ∀ x t y, pr n W a (act n W v.reverse (lc x t y)) = pr n W a (act n W v.reverse x) + t * pr n W a (act n W v.reverse y) := fun x t y => by rw [act_lc, pr_lc]
  have key : ∀ c, c < n → pr n W a (act n W v.reverse (eb c)) = pr n W b (eb c) := fun c hc => by
    by_cases e : c = b
    · subst e
      rw [fb, pr_eb hc, C.dg c hc]
    · have cb : (eb c) b = 0 := by unfold eb; rw [if_neg (fun z => e z.symm)]
      have cc : (eb c) c = 1 := by unfold eb; rw [if_pos rfl]
      have bb : (eb b) b = 1 := by unfold eb; rw [if_pos rfl]
      have bc : (eb b) c = 0 := by unfold eb; rw [if_neg e]
      have l1 : lets n (b :: (v ++ (a :: v.reverse))) := fun z hz => by
        rcases List.mem_cons.mp hz with rfl | hz
        · exact hb
        · rcases List.mem_append.mp hz with hz | hz
          · exact l z hz
          · rcases List.mem_cons.mp hz with rfl | hz
            · exact ha
            · exact lr z hz
      have l2 : lets n (v ++ (a :: (v.reverse ++ [b]))) := fun z hz => by
        rcases List.mem_append.mp hz with hz | hz
        · exact l z hz
        · rcases List.mem_cons.mp hz with rfl | hz
          · exact ha
          · rcases List.mem_append.mp hz with hz | hz
            · exact lr z hz
            · rcases List.mem_cons.mp hz with rfl | hz
              · exact hb
              · cases hz
      have z1 : act n W (b :: (v ++ (a :: v.reverse))) (eb c) = sg n W b (lc (eb c) (pr n W a (act n W v.reverse (eb c))) (eb b)) := by
        show sg n W b (act n W (v ++ (a :: v.reverse)) (eb c)) = _
        rw [act_app]
        show sg n W b (act n W v (sg n W a (act n W v.reverse (eb c)))) = _
        rw [gx]
      have z2 : act n W (v ++ (a :: (v.reverse ++ [b]))) (eb c) = lc (sg n W b (eb c)) (pr n W a (act n W v.reverse (sg n W b (eb c)))) (eb b) := by
        rw [act_app]
        show act n W v (sg n W a (act n W (v.reverse ++ [b]) (eb c))) = _
        rw [act_app]
        exact gx _
      have s1 := sp_act C hc l1
      have s2 := sp_act C hc l2
      rw [z1, sgb, pr_lc, pr_eb hc, pr_eb hb, C.dg b hb] at s1
      rw [z2, sgb, fl, fb, pr_eb hc] at s2
      rw [pr_eb hc]
      generalize pr n W a (act n W v.reverse (eb c)) = f at *
      have f1 : 0 ≤ W b c - f := by
        rcases s1 with s | s
        · have := s.nn b
          unfold lc at this
          rw [cb, bb] at this
          omega
        · have := s.nn c
          rw [neg_at] at this
          unfold lc at this
          rw [cc, bc] at this
          omega
      have f2 : 0 ≤ f - W b c := by
        rcases s2 with s | s
        · have := s.nn b
          unfold lc at this
          rw [cb, bb] at this
          omega
        · have := s.nn c
          rw [neg_at] at this
          unfold lc at this
          rw [cc, bc] at this
          omega
      omega
  have kx : pr n W a x = pr n W b (act n W v x) := by
    have := lin_eq (n := n) (F := fun x => pr n W a (act n W v.reverse x)) (G := fun x => pr n W b x) fl (fun x t y => pr_lc) key (x := act n W v x) (supp_act hx l)
    rw [act_rev C l] at this
    exact this
  rw [sga, act_lc, h, sgb, pr_lc, pr_eb hb, C.dg b hb, ← kx]
  funext j
  unfold lc
  generalize eb b j = z
  generalize pr n W a x = t
  rw [show t + t * -2 = -t by omega, Int.neg_mul]
  omega
theorem exch2 (C : Car n W) {a : Nat} (ha : a < n) {w : List Nat} (l : lets n w) (h : Pos n W (neg (act n W w (eb a)))) : ∃ u b v, w = u ++ b :: v ∧ ∀ x, supp n x → act n W (w ++ [a]) x = act n W (u ++ v) x := by
  obtain ⟨u, b, v, e, e2⟩ := exch C ha l h
  subst e
  have hb : b < n := l b (by simp)
  have lv : lets n v := fun z hz => l z (by simp [hz])
  refine ⟨u, b, v, rfl, fun x hx => ?_⟩
  rw [act_app, act_app]
  show act n W u (sg n W b (act n W v (sg n W a x))) = _
  rw [conj C ha hb lv e2 hx, act_app]
def hv (n : Nat) (W : Nat → Nat → Int) (w : List Nat) (a : Nat) : Int := sm (act n W w (eb a)) n
def Rw (n : Nat) (W : Nat → Nat → Int) (w v : List Nat) : Prop := ∀ c, c < n → hv n W w c = hv n W v c
theorem hv_neg_iff (C : Car n W) {a : Nat} (ha : a < n) {w : List Nat} (l : lets n w) : hv n W w a < 0 → Pos n W (neg (act n W w (eb a))) := fun h => by
  rcases sp_act C ha l with s | s
  · have := s.ht
    unfold hv at h
    omega
  · exact s
theorem hv_ne (C : Car n W) {a : Nat} (ha : a < n) {w : List Nat} (l : lets n w) : hv n W w a ≠ 0 := fun h => by
  unfold hv at h
  rcases sp_act C ha l with s | s
  · have := s.ht
    omega
  · have := s.ht
    rw [sm_neg] at this
    omega
theorem Rw.refl {w : List Nat} : Rw n W w w := fun _ _ => rfl
theorem Rw.symm {w v : List Nat} (h : Rw n W w v) : Rw n W v w := fun c hc => (h c hc).symm
theorem Rw.trans {u v w : List Nat} (h : Rw n W u v) (h2 : Rw n W v w) : Rw n W u w := fun c hc => (h c hc).trans (h2 c hc)
theorem Rw.sm {w v : List Nat} (h : Rw n W w v) {x : Vec} (hx : supp n x) : sm (act n W w x) n = sm (act n W v x) n :=
  lin_eq (n := n) (F := fun x => TT.sm (act n W w x) n) (G := fun x => TT.sm (act n W v x) n) (fun x t y => by rw [act_lc, sm_lc]) (fun x t y => by rw [act_lc, sm_lc]) h hx
theorem Rw.app {w v : List Nat} (h : Rw n W w v) {u : List Nat} (l : lets n u) : Rw n W (w ++ u) (v ++ u) := fun c hc => by
  unfold hv
  rw [act_app, act_app]
  exact h.sm (supp_act (supp_eb hc) l)
theorem hv_app_self (C : Car n W) {a : Nat} (ha : a < n) {w : List Nat} : hv n W (w ++ [a]) a = - hv n W w a := by
  unfold hv
  rw [act_app, show act n W [a] (eb a) = sg n W a (eb a) from rfl, sg_eb C ha, act_neg, sm_neg]
theorem Rw.twice (C : Car n W) {a : Nat} (ha : a < n) {w : List Nat} : Rw n W (w ++ [a] ++ [a]) w := fun c hc => by
  unfold hv
  rw [act_app, act_app]
  show TT.sm (act n W w (sg n W a (sg n W a (eb c)))) n = _
  rw [sg_sg C ha]
theorem Rw.of_map {w v : List Nat} (h : ∀ x, supp n x → act n W w x = act n W v x) : Rw n W w v := fun c hc => by unfold hv; rw [h _ (supp_eb hc)]
theorem hv_nil {c : Nat} (hc : c < n) : hv n W [] c = 1 := by
  unfold hv
  show sm (eb c) n = 1
  have := sm_eb (f := fun _ => (1 : Int)) hc
  simpa using this
theorem triv (C : Car n W) : ∀ (k : Nat) (w : List Nat), w.length = k → lets n w → (∀ c, c < n → hv n W w c = 1) → ∀ x, supp n x → act n W w x = x
  | k, w, hk, l, h, x, hx => by
    rcases List.eq_nil_or_concat w with rfl | ⟨w', a, e⟩
    · rfl
    · rw [List.concat_eq_append] at e
      subst e
      obtain ⟨lw, la⟩ := lets_app.mp l
      have ha := la a (by simp)
      have h1 := h a ha
      rw [hv_app_self C ha] at h1
      obtain ⟨u, b, v, e, hm⟩ := exch2 C ha lw (hv_neg_iff C ha lw (by omega))
      have luv : lets n (u ++ v) := by
        subst e
        exact fun z hz => lw z (by rcases List.mem_append.mp hz with q | q <;> simp [q])
      rw [hm x hx]
      have hl : (u ++ v).length < k := by
        subst e
        simp at hk ⊢
        omega
      refine triv C (u ++ v).length (u ++ v) rfl luv (fun c hc => ?_) x hx
      rw [← h c hc]
      unfold hv
      rw [hm _ (supp_eb hc)]
termination_by k => k
theorem Rw.map (C : Car n W) {w v : List Nat} (lw : lets n w) (lv : lets n v) (h : Rw n W w v) : ∀ x, supp n x → act n W w x = act n W v x := fun x hx => by
  have t := triv C _ (w ++ v.reverse) rfl (lets_app.mpr ⟨lw, lets_rev.mpr lv⟩) (fun c hc => by
    rw [h.app (lets_rev.mpr lv) c hc]
    unfold hv
    rw [act_app, act_rev2 C lv]
    exact hv_nil (W := W) hc) (act n W v x) (supp_act hx lv)
  rw [act_app, act_rev C lv] at t
  exact t
theorem Rw.rev (C : Car n W) {w v : List Nat} (lw : lets n w) (lv : lets n v) (h : Rw n W w v) : Rw n W w.reverse v.reverse := .of_map fun x hx => by
  have e := h.map C lw lv (act n W v.reverse x) (supp_act hx (lets_rev.mpr lv))
  rw [act_rev2 C lv] at e
  have e2 := congrArg (act n W w.reverse) e
  rw [act_rev C lw] at e2
  exact e2.symm
theorem min_ex (P : Nat → Prop) : ∀ k, P k → ∃ m, P m ∧ ∀ j, P j → m ≤ j
  | k, h => by
    by_cases q : ∃ j, j < k ∧ P j
    · obtain ⟨j, hj, pj⟩ := q
      exact min_ex P j pj
    · exact ⟨k, h, fun j hj => Nat.le_of_not_lt fun z => q ⟨j, z, hj⟩⟩
termination_by k => k
structure Ln (n : Nat) (W : Nat → Nat → Int) (w : List Nat) (k : Nat) : Prop where
  ex : ∃ v, lets n v ∧ v.length = k ∧ Rw n W v w
  le : ∀ v, lets n v → Rw n W v w → k ≤ v.length
theorem Ln.has {w : List Nat} (l : lets n w) : ∃ k, Ln n W w k := by
  obtain ⟨m, ⟨v, h1, h2, h3⟩, h4⟩ := min_ex (fun k => ∃ v, lets n v ∧ v.length = k ∧ Rw n W v w) w.length ⟨w, l, rfl, .refl⟩
  exact ⟨m, ⟨v, h1, h2, h3⟩, fun v a b => h4 _ ⟨v, a, rfl, b⟩⟩
theorem Ln.uniq {w : List Nat} {j k : Nat} (a : Ln n W w j) (b : Ln n W w k) : j = k := by
  obtain ⟨v, h1, h2, h3⟩ := a.ex
  obtain ⟨u, g1, g2, g3⟩ := b.ex
  have := a.le u g1 g3
  have := b.le v h1 h3
  omega
theorem Ln.cong {w v : List Nat} {k : Nat} (a : Ln n W w k) (h : Rw n W w v) : Ln n W v k := by
  obtain ⟨u, h1, h2, h3⟩ := a.ex
  exact ⟨⟨u, h1, h2, h3.trans h⟩, fun z l r => a.le z l (r.trans h.symm)⟩
theorem Ln.down (C : Car n W) {a : Nat} (ha : a < n) {w : List Nat} (l : lets n w) {k : Nat} (h : Ln n W w k) (hn : hv n W w a < 0) : ∃ j, k = j + 1 ∧ Ln n W (w ++ [a]) j := by
  obtain ⟨v, h1, h2, h3⟩ := h.ex
  have la : lets n [a] := fun z hz => by simp at hz; subst hz; exact ha
  obtain ⟨u, b, v', e, hm⟩ := exch2 C ha h1 (hv_neg_iff C ha h1 (by rw [h3 a ha]; exact hn))
  have luv : lets n (u ++ v') := by
    subst e
    exact fun z hz => h1 z (by rcases List.mem_append.mp hz with q | q <;> simp [q])
  have r1 : Rw n W (u ++ v') (w ++ [a]) := (Rw.of_map fun x hx => (hm x hx).symm).trans (h3.app la)
  have hl : (u ++ v').length + 1 = k := by subst e; simp at h2 ⊢; omega
  refine ⟨(u ++ v').length, hl.symm, ⟨u ++ v', luv, rfl, r1⟩, fun z lz rz => ?_⟩
  have := h.le (z ++ [a]) (lets_app.mpr ⟨lz, la⟩) ((rz.app la).trans (.twice C ha))
  rw [List.length_append] at this
  simp at this
  simp at hl ⊢
  omega
theorem Ln.up (C : Car n W) {a : Nat} (ha : a < n) {w : List Nat} (l : lets n w) {k : Nat} (h : Ln n W w k) (hn : 0 < hv n W w a) : Ln n W (w ++ [a]) (k + 1) := by
  have la : lets n [a] := fun z hz => by simp at hz; subst hz; exact ha
  obtain ⟨j, hj⟩ := Ln.has (W := W) (lets_app.mpr ⟨l, la⟩)
  obtain ⟨i, e, hi⟩ := hj.down C ha (lets_app.mpr ⟨l, la⟩) (by rw [hv_app_self C ha]; omega)
  have := (hi.cong (Rw.twice C ha)).uniq h
  subst this
  rw [← e]
  exact hj
theorem Ln.zero {w : List Nat} (h : Ln n W w 0) : ∀ c, c < n → hv n W w c = 1 := fun c hc => by
  obtain ⟨v, h1, h2, h3⟩ := h.ex
  obtain rfl : v = [] := List.eq_nil_of_length_eq_zero h2
  rw [← h3 c hc]
  exact hv_nil hc
theorem Ln.of_pos (C : Car n W) {w : List Nat} (l : lets n w) {k : Nat} (h : Ln n W w k) (hp : ∀ c, c < n → 0 < hv n W w c) : k = 0 := by
  obtain ⟨v, h1, h2, h3⟩ := h.ex
  rcases List.eq_nil_or_concat v with rfl | ⟨v', a, e⟩
  · exact h2.symm
  · rw [List.concat_eq_append] at e
    subst e
    obtain ⟨lv, la⟩ := lets_app.mp h1
    have ha := la a (by simp)
    have p := hp a ha
    rw [← h3 a ha, hv_app_self C ha] at p
    obtain ⟨j, hj⟩ := Ln.has (W := W) lv
    obtain ⟨i, e, hi⟩ := hj.down C ha lv (by omega)
    have e2 := (hi.cong h3).uniq h
    have := hj.le v' lv .refl
    simp at h2
    omega
theorem Ln.rev (C : Car n W) {w : List Nat} (l : lets n w) {k : Nat} (h : Ln n W w k) : Ln n W w.reverse k := by
  obtain ⟨v, h1, h2, h3⟩ := h.ex
  refine ⟨⟨v.reverse, lets_rev.mpr h1, by rw [List.length_reverse]; exact h2, h3.rev C h1 l⟩, fun z lz rz => ?_⟩
  have := h.le z.reverse (lets_rev.mpr lz) (by
    have := rz.rev C lz (lets_rev.mpr l)
    rw [List.reverse_reverse] at this
    exact this)
  rw [List.length_reverse] at this
  exact this
theorem Ln.le_len {w : List Nat} (l : lets n w) {k : Nat} (h : Ln n W w k) : k ≤ w.length := h.le w l .refl
end
end TT
namespace BW
open PySem L2 DL
def kd_WEIGHTS : List (Int × D) := [(2, tI [0, 0]), (3, tI [1, 1]), (4, tI [1, 2]), (6, tI [1, 3]), (0, tI [2, 2])]
abbrev t_is_whole : DS := (dRet (dAndV (dIsi "int" (dVar 0)) (dNotV (dIsi "bool" (dVar 0)))))
abbrev t_is_letter : DS := (dRet (dAndV (dCall sp_is_whole (dCons (dVar 0) dNil)) (dCh oLe oLe (dC (.int 1)) (dVar 0) (dVar 1))))
abbrev t_can_stand : DS := (dSeq (dSet 3 (dOp oIx (dIxN 0 (dOp oSub (dVar 1) (dC (.int 1)))) (dOp oSub (dVar 2) (dC (.int 1)))))
  (dSeq (dIfS (dNot (dTru (dCall sp_is_whole (dCons (dVar 3) dNil)))) (dRet (dC (.bl false))) dNext)
  (dSeq (dIfS (dTB (dOp oEq (dVar 1) (dVar 2))) (dRet (dOp oEq (dVar 3) (dC (.int (1))))) dNext)
  (dSeq (dIfS (dTB (dOp oLt (dVar 1) (dVar 2))) (dRet (dKdIn kd_WEIGHTS (dVar 3))) dNext)
  (dRet (dOp oEq (dVar 3) (dOp oIx (dIxN 0 (dOp oSub (dVar 2) (dC (.int 1)))) (dOp oSub (dVar 1) (dC (.int 1))))))))))
abbrev t_check_shape : DS := (dSeq (dIfS (dOr (dNot (dTru (dIsi2 "list" "tuple" (dVar 0)))) (dTB (dOp oEq (dLenN 0) (dC (.int 0))))) (fun _ _ => False) dNext)
  (dSeq (dIfS (dTB (dOp oGt (dLenN 0) (dC (.int (6))))) (fun _ _ => False) dNext)
  (dFor (iLst (dVar 0)) (dgN 1) (dIfS (dOr (dNot (dTru (dIsi2 "list" "tuple" (dVar 1)))) (dTB (dOp oNe (dLenN 1) (dLenN 0)))) (fun _ _ => False) dNext))))
abbrev t_check_table : DS := (dSeq (dDrop (dCall sp_check_shape (dCons (dVar 0) dNil)))
  (dSeq (dSet 1 (dFr (dLr2 (dC (.int 1)) (dOp oAdd (dLenN 0) (dC (.int 1))))))
  (dFor (iLst (dVar 1)) (dgN 2) (dFor (iLst (dVar 1)) (dgN 3) (dIfS (dNot (dTru (dCall sp_can_stand (dCons (dVar 0) (dCons (dVar 2) (dCons (dVar 3) dNil)))))) (fun _ _ => False) dNext)))))
abbrev t_weight_of : DS := (dSeq (dIfS (dTB (dOp oEq (dVar 1) (dVar 2))) (dRet (dC (.int (-2)))) dNext)
  (dSeq (dAsg (dKd kd_WEIGHTS (dOp oIx (dIxN 0 (dOp oSub (dVar 1) (dC (.int 1)))) (dOp oSub (dVar 2) (dC (.int 1))))) (dgTup 2 (dgCons (dgN 3) (dgCons (dgN 4) dgNil))))
  (dRet (dIf (dTB (dOp oLt (dVar 1) (dVar 2))) (dVar 3) (dVar 4)))))
abbrev t_weights_from : DS := (dRet (dTupOf (dFr (dLc (iR2 (dC (.int 1)) (dOp oAdd (dLenN 0) (dC (.int 1)))) (dgN 2) dY (dCall sp_weight_of (dCons (dVar 0) (dCons (dVar 1) (dCons (dVar 2) dNil)))) [2]))))
abbrev t_as_word : DS := (dSeq (dIfS (dNot (dTru (dIsi2 "list" "tuple" (dVar 0)))) (fun _ _ => False) dNext)
  (dSeq (dIfS (dTB (dOp oGt (dLenN 0) (dC (.int (60))))) (fun _ _ => False) dNext)
  (dSeq (dFor (iEnS (dVar 0)) (dgTup 2 (dgCons (dgN 2) (dgCons (dgN 3) dgNil))) (dIfS (dNot (dTru (dCall sp_is_letter (dCons (dVar 3) (dCons (dVar 1) dNil))))) (fun _ _ => False) dNext))
  (dRet (dTupN 0)))))
abbrev t_first_row (BC : Addr) : DS := (dRet (dOp oMul (dTup (dCons (dC (.int 1)) dNil)) (dLenO BC (sp_len_Bonds BC) (dVar 0))))
abbrev t_pressed (BC : Addr) : DS := (dSeq (dSet 3 (dIxN 1 (dOp oSub (dVar 2) (dC (.int 1)))))
  (dSeq (dSet 4 (dOp oIx (dFld BC "weights" (dVar 0)) (dOp oSub (dVar 2) (dC (.int 1)))))
  (dRet (dTupOf (dFr (dLc (iZp (dVar 1) (dVar 4)) (dgTup 2 (dgCons (dgN 5) (dgCons (dgN 6) dgNil))) dY (dOp oAdd (dVar 5) (dOp oMul (dVar 6) (dVar 3))) [5, 6]))))))
abbrev t_row_behind (BC : Addr) : DS := (dSeq (dSet 2 (dCall (sp_first_row BC) (dCons (dVar 0) dNil)))
  (dSeq (dFor (iSeq (dVar 1)) (dgN 3) (dSet 2 (dCall (sp_pressed BC) (dCons (dVar 0) (dCons (dVar 2) (dCons (dVar 3) dNil))))))
  (dRet (dVar 2))))
abbrev t_fallen : DS := (dRet (dTupOf (dFr (dLc (iEnS (dVar 0)) (dgTup 2 (dgCons (dgN 1) (dgCons (dgN 2) dgNil))) (dTB (dOp oLt (dVar 2) (dC (.int 0)))) (dOp oAdd (dVar 1) (dC (.int 1))) [1, 2]))))
abbrev t_way_down (BC : Addr) : DS := (dSeq (dSetO 2 (dLs dNil))
  (dSeq (dSet 3 (dVar 1))
  (dSeq (dSet 4 (dCall sp_fallen (dCons (dVar 3) dNil)))
  (dSeq (dWhile (dAnd (dTru (dVar 4)) (dTB (dOp oLt (dLenN 2) (dC (.int (60)))))) (dSeq (dApp 2 (dIxN 4 (dC (.int 0))))
  (dSeq (dSet 3 (dCall (sp_pressed BC) (dCons (dVar 0) (dCons (dVar 3) (dCons (dIxN 4 (dC (.int 0))) dNil)))))
  (dSet 4 (dCall sp_fallen (dCons (dVar 3) dNil))))))
  (dRet (dTup (dCons (dVar 2) (dCons (dVar 3) dNil))))))))
abbrev t_row_of (BC : Addr) : DS := (dRet (dCall (sp_row_behind BC) (dCons (dVar 0) (dCons (dCall sp_as_word (dCons (dVar 1) (dCons (dLenO BC (sp_len_Bonds BC) (dVar 0)) dNil))) dNil))))
abbrev t__law_mixed : DS := (dSeq (dSet 2 (dOp oAdd (dOp oAdd (dOp oMod (dInt (dOp oMul (dOp oMul (dVar 0) (dOp oAdd (dC (.int 1)) (dOp oMul (dC (.int 2)) (dVar 1)))) (dC (.int 48271)))) (dC (.int 2147483647))) (dOp oMul (dOp oMul (dC (.int 7919)) (dVar 1)) (dVar 1))) (dOp oMul (dC (.int 104729)) (dVar 1))))
  (dRet (dOp oDiv (dOp oMod (dInt (dOp oMul (dVar 2) (dC (.int 69621)))) (dC (.int 2147483629))) (dC (.int 7)))))
end BW
namespace BW
open PySem L2 DL
theorem iteD {p : Prop} [Decidable p] {a b : Prop} (h1 : p → a) (h2 : ¬p → b) : if decide p = true then a else b := by
  by_cases h : p
  · rw [decide_eq_true h]; exact iteT (h1 h)
  · rw [decide_eq_false h]; exact iteF (h2 h)
theorem ixN_nat {n j : Nat} (hj : j < n) : ixN n (j : Int) = some j := by
  unfold ixN
  rw [if_pos (by omega), if_pos (by omega)]
  simp
theorem getD_get {α : Type} {xs : List α} {i : Nat} {d : α} (h : i < xs.length) : xs[i]? = some (xs.getD i d) := by
  rw [List.getD_eq_getElem?_getD, List.getElem?_eq_getElem h]; rfl
theorem atM {α β : Type} {xs : List α} {f : α → β} {i : Nat} (d : α) (h : i < xs.length) : atI (xs.map f) (i : Int) = some (f (xs.getD i d)) := by
  refine atI_nat ?_
  rw [List.getElem?_map, getD_get (d := d) h]; rfl
theorem okI (a : Int) : (D.int a).okE = true := rfl
theorem eqvI (a b : Int) : PyData.eqv (D.int a).py (D.int b).py = decide (a = b) := by
  show PyData.eqv (.int a) (.int b) = _
  first | rfl | (unfold PyData.eqv; rfl)
abbrev St0 (hm : Bool) (n : Nat) (ds : List D) (X : List Addr) (k : Nat) : S := ⟨X, init hm n ds, k⟩
abbrev En (R : D → Nat → Prop) : DEnds := { nx := fun s => R .non s.k, rt := R }
theorem r_is_whole (X : List Addr) (ds : List D) (k : Nat) (R : D → Nat → Prop) (h : sp_is_whole ds k R) : t_is_whole (En R) (St0 false 1 ds X k) := by
  obtain ⟨d, rfl, hd, h⟩ := h
  intro X
  cases d <;> first
    | exact ⟨_, rfl, _, _, rfl, rfl, _, rfl, iteT ⟨_, rfl, _, _, rfl, rfl, _, rfl, h⟩⟩
    | exact ⟨_, rfl, _, _, rfl, rfl, _, rfl, iteF h⟩
    | cases hd
theorem r_is_letter (X : List Addr) (ds : List D) (k : Nat) (R : D → Nat → Prop) (h : sp_is_letter ds k R) : t_is_letter (En R) (St0 false 2 ds X k) := by
  obtain ⟨d, n, rfl, hd, h⟩ := h
  intro X
  refine ⟨_, rfl, d, rfl, hd, ?_⟩
  cases d <;> first
    | exact ⟨_, rfl, iteF h⟩
    | skip
  rename_i a
  refine ⟨_, rfl, iteT ⟨_, rfl, _, rfl, iteD (fun h1 => ⟨_, rfl, ?_⟩) fun h1 => ?_⟩⟩
  · have e : D.isL n (.int a) = decide (a ≤ n) := by
      show (decide (1 ≤ a) && decide (a ≤ n)) = _
      rw [decide_eq_true h1, Bool.true_and]
    rw [e] at h
    exact h
  · have e : D.isL n (.int a) = false := by
      show (decide (1 ≤ a) && decide (a ≤ n)) = _
      rw [decide_eq_false h1, Bool.false_and]
    rw [e] at h
    exact h
theorem r_can_stand (X : List Addr) (ds : List D) (k : Nat) (R : D → Nat → Prop) (h : sp_can_stand ds k R) : t_can_stand (En R) (St0 false 4 ds X k) := by
  obtain ⟨T, a, b, rfl, ht, a1, a2, b1, b2, h⟩ := h
  obtain ⟨i, rfl⟩ : ∃ i : Nat, a = (i : Int) + 1 := ⟨(a - 1).toNat, by omega⟩
  obtain ⟨j, rfl⟩ : ∃ j : Nat, b = (j : Int) + 1 := ⟨(b - 1).toNat, by omega⟩
  have hi : i < T.length := by omega
  have hj : j < T.length := by omega
  have row : ∀ i : Nat, i < T.length → ∀ z : Int, z = (i : Int) → atI (T.map lI) z = some (lI (T.getD i [])) := fun i hi z e => by rw [e]; exact atM [] hi
  have item : ∀ i j : Nat, i < T.length → j < T.length → ∀ z : Int, z = (j : Int) → atI ((T.getD i []).map D.int) z = some (.int (at2 T i j)) := fun i j hi hj z e => by rw [e]; exact atM 0 (by rw [ht.sq i hi]; exact hj)
  refine ⟨_, rfl, _, rfl, _, _, rfl, row i hi _ (by omega), _, rfl, _, _, rfl, item i j hi hj _ (by omega), ?_⟩
  refine ⟨_, rfl, _, rfl, rfl, _, rfl, iteF ?_⟩
  refine ⟨_, rfl, _, rfl, rfl, rfl, _, rfl, ?_⟩
  rw [eqvI]
  refine iteD (fun e => ?_) fun ne => ?_
  · have e : i = j := by omega
    subst e
    intro X
    refine ⟨_, rfl, rfl, rfl, ?_⟩
    rw [eqvI, ht.dg i hi]
    exact h
  · refine ⟨_, rfl, _, rfl, _, rfl, iteD (fun lt => ?_) fun ge => ?_⟩
    · intro X
      refine ⟨_, rfl, _, rfl, ?_⟩
      have e : (lookI kd_WEIGHTS (at2 T i j)).isSome = true := by
        rcases ht.of i j hi hj (by omega) with e | e | e | e | e <;> rw [e] <;> rfl
      rw [e]
      exact h
    · intro X
      refine ⟨_, rfl, _, rfl, _, rfl, _, _, rfl, row j hj _ (by omega), _, rfl, _, _, rfl, item j i hj hi _ (by omega), rfl, rfl, ?_⟩
      rw [eqvI, ht.sy i j hi hj, decide_eq_true rfl]
      exact h
end BW
namespace BW
open PySem L2 DL
theorem r_check_shape (X : List Addr) (ds : List D) (k : Nat) (R : D → Nat → Prop) (h : sp_check_shape ds k R) : t_check_shape (En R) (St0 false 2 ds X k) := by
  obtain ⟨T, rfl, ht, h⟩ := h
  have lo := ht.lo
  have hi := ht.hi
  refine ⟨_, rfl, _, _, _, rfl, rfl, rfl, _, rfl, iteF ⟨_, rfl, rfl, rfl, _, rfl, ?_⟩⟩
  rw [eqvI, List.length_map, decide_eq_false (by omega)]
  refine iteF ⟨_, rfl, _, rfl, ?_⟩
  rw [List.length_map, decide_eq_false (by omega)]
  refine iteF ⟨_, rfl, _, rfl, fun i s' => ∃ x, s' = ⟨X, [.dat (lM T), x], k⟩, ⟨_, rfl⟩, ?_, ?_⟩
  · rintro i d s' hd ⟨x, rfl⟩
    rw [List.getElem?_map] at hd
    obtain ⟨r, hr, rfl⟩ := Option.map_eq_some_iff.mp hd
    have hl : i < T.length := (List.getElem?_eq_some_iff.mp hr).1
    have hrl : r.length = T.length := by
      have := ht.sq i hl
      rw [List.getD_eq_getElem?_getD, hr] at this
      exact this
    refine ⟨_, rfl, _, _, _, rfl, rfl, rfl, _, rfl, iteF ⟨_, rfl, _, rfl, rfl, rfl, _, rfl, ?_⟩⟩
    rw [eqvI, List.length_map, List.length_map, decide_eq_true (by omega)]
    exact iteF ⟨_, rfl⟩
  · rintro s' ⟨x, rfl⟩
    exact h
theorem r_check_table (X : List Addr) (ds : List D) (k : Nat) (R : D → Nat → Prop) (h : sp_check_table ds k R) : t_check_table (En R) (St0 false 4 ds X k) := by
  obtain ⟨T, rfl, ht, h⟩ := h
  have hi := ht.hi
  refine ⟨_, rfl, T, rfl, ht, ?_⟩
  refine ⟨_, rfl, 1, _, rfl, rfl, ⟨by omega, by omega, ?_, ?_⟩, ?_⟩
  · rw [List.length_map]; omega
  · rw [List.length_map]; omega
  have en : (((T.map lI).length : Int) + 1 - 1).toNat = T.length := by rw [List.length_map]; omega
  rw [en]
  refine ⟨_, rfl, _, rfl, fun i s' => ∃ x y, s' = ⟨X, [.dat (lM T), .dat (.lst (rngD 1 T.length)), x, y], k⟩, ⟨_, _, rfl⟩, ?_, ?_⟩
  · rintro i d s' hd ⟨x, y, rfl⟩
    obtain ⟨hi, rfl⟩ := rngD_at hd
    refine ⟨_, rfl, _, rfl, fun j s' => ∃ y, s' = ⟨X, [.dat (lM T), .dat (.lst (rngD 1 T.length)), .dat (.int (1 + i)), y], k⟩, ⟨_, rfl⟩, ?_, ?_⟩
    · rintro j d s' hd ⟨y, rfl⟩
      obtain ⟨hj, rfl⟩ := rngD_at hd
      refine ⟨_, rfl, _, rfl, _, rfl, T, _, _, rfl, ht, by omega, by omega, by omega, by omega, _, rfl, iteF ⟨_, rfl⟩⟩
    · rintro s' ⟨y, rfl⟩
      exact ⟨_, _, rfl⟩
  · rintro s' ⟨x, y, rfl⟩
    exact h
theorem look_wts {k : Int} (h : k = 2 ∨ k = 3 ∨ k = 4 ∨ k = 6 ∨ k = 0) : lookI kd_WEIGHTS k = some (tI [(wts k).1, (wts k).2]) := by
  rcases h with e | e | e | e | e <;> subst e <;> rfl
theorem r_weight_of (X : List Addr) (ds : List D) (k : Nat) (R : D → Nat → Prop) (h : sp_weight_of ds k R) : t_weight_of (En R) (St0 false 5 ds X k) := by
  obtain ⟨T, a, b, rfl, ht, a1, a2, b1, b2, h⟩ := h
  obtain ⟨i, rfl⟩ : ∃ i : Nat, a = (i : Int) + 1 := ⟨(a - 1).toNat, by omega⟩
  obtain ⟨j, rfl⟩ : ∃ j : Nat, b = (j : Int) + 1 := ⟨(b - 1).toNat, by omega⟩
  have hi : i < T.length := by omega
  have hj : j < T.length := by omega
  have ei : ix ((i : Int) + 1) = i := by unfold ix; omega
  have ej : ix ((j : Int) + 1) = j := by unfold ix; omega
  rw [ei, ej] at h
  have row : ∀ i : Nat, i < T.length → ∀ z : Int, z = (i : Int) → atI (T.map tI) z = some (tI (T.getD i [])) := fun i hi z e => by rw [e]; exact atM [] hi
  have item : ∀ i j : Nat, i < T.length → j < T.length → ∀ z : Int, z = (j : Int) → atI ((T.getD i []).map D.int) z = some (.int (at2 T i j)) := fun i j hi hj z e => by rw [e]; exact atM 0 (by rw [ht.sq i hi]; exact hj)
  refine ⟨_, rfl, _, rfl, rfl, rfl, _, rfl, ?_⟩
  rw [eqvI]
  refine iteD (fun e => ?_) fun ne => ?_
  · intro X
    have e : i = j := by omega
    subst e
    unfold wt at h
    rw [if_pos rfl] at h
    exact h
  · have ne' : i ≠ j := by omega
    refine ⟨_, rfl, _, rfl, _, _, rfl, row i hi _ (by omega), _, rfl, _, _, rfl, item i j hi hj _ (by omega), ?_⟩
    refine ⟨_, _, rfl, look_wts (ht.of i j hi hj ne'), rfl, rfl, ?_⟩
    intro X
    unfold wt at h
    rw [if_neg ne'] at h
    refine ⟨_, rfl, _, rfl, _, rfl, iteD (fun lt => ⟨_, rfl, ?_⟩) fun ge => ⟨_, rfl, ?_⟩⟩
    · rw [if_pos (by omega)] at h; exact h
    · rw [if_neg (by omega)] at h; exact h
theorem r_weights_from (X : List Addr) (ds : List D) (k : Nat) (R : D → Nat → Prop) (h : sp_weights_from ds k R) : t_weights_from (En R) (St0 false 3 ds X k) := by
  obtain ⟨T, a, rfl, ht, a1, a2, h⟩ := h
  have hi := ht.hi
  intro X
  refine ⟨_, rfl, 1, _, rfl, rfl, ⟨by omega, by omega, ?_, ?_⟩, ?_⟩
  · rw [List.length_map]; omega
  · rw [List.length_map]; omega
  have en : (((T.map tI).length : Int) + 1 - 1).toNat = T.length := by rw [List.length_map]; omega
  rw [en]
  refine ⟨by rw [rngD_len]; exact Nat.le_trans hi (by decide), fun p hp => ⟨fun i acc k' => k' = k ∧ acc = ((List.range i).map fun j => D.int (wt T (ix a) j)), ⟨rfl, rfl⟩, ?_, ?_⟩⟩
  · rintro i d acc k' hd ⟨rfl, rfl⟩ hl
    obtain ⟨hi, rfl⟩ := rngD_at hd
    refine iteT ⟨_, rfl, _, rfl, _, rfl, T, a, _, rfl, ht, a1, a2, by omega, by omega, rfl, ?_⟩
    rw [List.range_succ, List.map_append]
    have e : ix (1 + (i : Int)) = i := by unfold ix; omega
    rw [e]
    rfl
  · rintro acc k' ⟨rfl, rfl⟩ hl
    refine ⟨_, rfl, ?_⟩
    have e : ((List.range (rngD 1 T.length).length).map fun j => D.int (wt T (ix a) j)) = (wtr T (ix a)).map .int := by
      unfold wtr
      rw [rngD_len, List.map_map]
      rfl
    rw [e]
    exact h
end BW
namespace BW
open PySem L2 DL
theorem press_length (T : Mat) (r : List Int) (i : Nat) : (press T r i).length = T.length := by unfold press; rw [List.length_map, List.length_range]
theorem r_as_word (X : List Addr) (ds : List D) (k : Nat) (R : D → Nat → Prop) (h : sp_as_word ds k R) : t_as_word (En R) (St0 false 4 ds X k) := by
  obtain ⟨d, w, n, rfl, hw, hl, hwd, h⟩ := h
  have loop : ∀ (s0 : S) (x y : Sl), ∀ i e, w[i]? = some e → ∀ (DD : DEnds), (∀ x y, DD.nx ⟨X, [.dat d, .dat (.int n), x, y], k⟩) → (dgTup 2 (dgCons (dgN 2) (dgCons (dgN 3) dgNil))) (.tup [.int ((0 + i : Nat) : Int), .int e]) ⟨X, [.dat d, .dat (.int n), x, y], k⟩ fun s2 => (dIfS (dNot (dTru (dCall sp_is_letter (dCons (dVar 3) (dCons (dVar 1) dNil))))) (fun _ _ => False) dNext) DD s2 := by
    intro s0 x y i e he DD hf
    have b := hwd e (List.mem_of_getElem? he)
    refine ⟨rfl, rfl, ?_⟩
    refine ⟨_, rfl, _, rfl, _, _, rfl, rfl, _, rfl, ?_⟩
    have e1 : D.isL n (.int e) = true := by
      show (decide (1 ≤ e) && decide (e ≤ n)) = true
      rw [decide_eq_true b.1, decide_eq_true b.2]; rfl
    rw [e1]
    exact iteF (hf _ _)
  rcases hw with rfl | rfl
  · refine ⟨_, rfl, _, _, _, rfl, rfl, rfl, _, rfl, iteF ⟨_, rfl, _, rfl, ?_⟩⟩
    rw [List.length_map, decide_eq_false (by omega)]
    refine iteF ⟨_, rfl, _, rfl, fun i s' => ∃ x y, s' = ⟨X, [.dat (lI w), .dat (.int n), x, y], k⟩, ⟨_, _, rfl⟩, ?_, ?_⟩
    · rintro i d s' hd ⟨x, y, rfl⟩
      obtain ⟨e, he, rfl⟩ := enum_at hd
      rw [List.getElem?_map] at he
      obtain ⟨a, ha, rfl⟩ := Option.map_eq_some_iff.mp he
      exact loop ⟨X, [], k⟩ x y i a ha _ fun x y => ⟨x, y, rfl⟩
    · rintro s' ⟨x, y, rfl⟩ X'
      exact ⟨_, rfl, h⟩
  · refine ⟨_, rfl, _, _, _, rfl, rfl, rfl, _, rfl, iteF ⟨_, rfl, _, rfl, ?_⟩⟩
    rw [List.length_map, decide_eq_false (by omega)]
    refine iteF ⟨_, rfl, _, rfl, fun i s' => ∃ x y, s' = ⟨X, [.dat (tI w), .dat (.int n), x, y], k⟩, ⟨_, _, rfl⟩, ?_, ?_⟩
    · rintro i d s' hd ⟨x, y, rfl⟩
      obtain ⟨e, he, rfl⟩ := enum_at hd
      rw [List.getElem?_map] at he
      obtain ⟨a, ha, rfl⟩ := Option.map_eq_some_iff.mp he
      exact loop ⟨X, [], k⟩ x y i a ha _ fun x y => ⟨x, y, rfl⟩
    · rintro s' ⟨x, y, rfl⟩ X'
      exact ⟨_, rfl, h⟩
theorem rep_one (n : Nat) : (List.replicate n [D.int 1]).flatten = (List.replicate n (1 : Int)).map .int := by
  induction n with
  | zero => rfl
  | succ n ih => rw [List.replicate_succ, List.flatten_cons, ih, List.replicate_succ]; rfl
theorem r_first_row (BC : Addr) (X : List Addr) (ds : List D) (k : Nat) (R : D → Nat → Prop) (h : sp_first_row BC ds k R) : t_first_row BC (En R) (St0 false 1 ds X k) := by
  obtain ⟨T, rfl, ht, h⟩ := h
  have lo := ht.lo
  have hi := ht.hi
  intro X
  refine ⟨by decide, _, rfl, ⟨_, _, rfl⟩, T, rfl, hi, T.length, rfl, by omega, ?_⟩
  refine ⟨by simp, by omega, by omega, by decide, ?_⟩
  have e : (List.replicate ((T.length : Nat) : Int).toNat [D.int 1]).flatten = (one T).map .int := by rw [Int.toNat_natCast]; exact rep_one _
  show R (.tup (List.replicate ((T.length : Nat) : Int).toNat [D.int 1]).flatten) k
  rw [e]
  exact h
theorem r_pressed (BC : Addr) (X : List Addr) (ds : List D) (k : Nat) (R : D → Nat → Prop) (h : sp_pressed BC ds k R) : t_pressed BC (En R) (St0 false 7 ds X k) := by
  obtain ⟨T, r, a, rfl, ht, hr, a1, a2, h⟩ := h
  have hT := ht.hi
  obtain ⟨i, rfl⟩ : ∃ i : Nat, a = (i : Int) + 1 := ⟨(a - 1).toNat, by omega⟩
  have hi : i < T.length := by omega
  have ei : ix ((i : Int) + 1) = i := by unfold ix; omega
  rw [ei] at h
  refine ⟨_, rfl, _, rfl, _, .int (r.getD i 0), rfl, by rw [show (i : Int) + 1 - 1 = (i : Int) by omega]; exact atM 0 (by omega), ?_⟩
  have w1 : atI ((wtM T).map tI) ((i : Int) + 1 - 1) = some (tI (wtr T i)) := by
    rw [show (i : Int) + 1 - 1 = (i : Int) by omega]
    have q := atM (f := tI) (xs := wtM T) [] (i := i) (by unfold wtM; rw [List.length_map, List.length_range]; exact hi)
    rw [q]
    congr 2
    unfold wtM
    rw [List.getD_eq_getElem?_getD, List.getElem?_map, List.getElem?_range hi]
    rfl
  refine ⟨_, rfl, _, _, _, rfl, rfl, _, rfl, _, _, rfl, w1, ?_⟩
  intro X
  have lw : (wtr T i).length = T.length := by unfold wtr; rw [List.length_map, List.length_range]
  refine ⟨_, rfl, _, rfl, _, _, rfl, rfl, ?_⟩
  have lp : (pairD (r.map D.int) ((wtr T i).map D.int)).length = T.length := by rw [pair_len, List.length_map, List.length_map, hr, lw]; omega
  refine ⟨by rw [lp]; exact Nat.le_trans hT (by decide), fun p hp => ⟨fun j acc k' => k' = k ∧ acc = ((List.range j).map fun j => D.int (r.getD j 0 + wt T i j * r.getD i 0)), ⟨rfl, rfl⟩, ?_, ?_⟩⟩
  · rintro j d acc k' hd ⟨rfl, rfl⟩ hl
    have hj : j < T.length := by rw [← lp]; exact (List.getElem?_eq_some_iff.mp hd).1
    obtain ⟨x, y, hx, hy, rfl⟩ := pair_at hd
    rw [List.getElem?_map, getD_get (d := 0) (by omega : j < r.length)] at hx
    rw [List.getElem?_map, getD_get (d := 0) (by omega : j < (wtr T i).length)] at hy
    cases hx
    cases hy
    have ew : (wtr T i).getD j 0 = wt T i j := by
      unfold wtr
      rw [List.getD_eq_getElem?_getD, List.getElem?_map, List.getElem?_range hj]
      rfl
    rw [ew]
    have bw : -(2 ^ 64) < wt T i j ∧ wt T i j < 2 ^ 64 := by
      unfold wt wts
      split
      · exact ⟨by decide, by decide⟩
      · split <;> split <;> first | exact ⟨by decide, by decide⟩ | (split <;> first | exact ⟨by decide, by decide⟩ | (split <;> first | exact ⟨by decide, by decide⟩ | (split <;> exact ⟨by decide, by decide⟩)))
    refine ⟨rfl, rfl, iteT ⟨_, rfl, _, rfl, _, rfl, .inl bw, rfl, ?_⟩⟩
    rw [List.range_succ, List.map_append]
    rfl
  · rintro acc k' ⟨rfl, rfl⟩ hl
    refine ⟨_, rfl, ?_⟩
    rw [lp]
    have e : ((List.range T.length).map fun j => D.int (r.getD j 0 + wt T i j * r.getD i 0)) = (press T r i).map .int := by
      unfold press
      rw [List.map_map]
      rfl
    rw [e]
    exact h
theorem r_row_behind (BC : Addr) (X : List Addr) (ds : List D) (k : Nat) (R : D → Nat → Prop) (h : sp_row_behind BC ds k R) : t_row_behind BC (En R) (St0 false 4 ds X k) := by
  obtain ⟨T, d0, w, rfl, ht, hd0, hw, h⟩ := h
  have hit : d0.items = some (w.map D.int) := by rcases hd0 with rfl | rfl <;> rfl
  refine ⟨_, rfl, T, rfl, ht, ?_⟩
  refine ⟨_, rfl, _, hit, fun i s' => ∃ x r, s' = ⟨X, [.dat (bnd BC T), .dat d0, .dat (tI r), x], k⟩ ∧ r.length = T.length ∧ (w.drop i).foldl (fun r a => press T r (ix a)) r = row T w, ⟨_, _, rfl, by unfold one; rw [List.length_replicate], rfl⟩, ?_, ?_⟩
  · rintro i d s' hd ⟨x, r, rfl, hr, e⟩
    rw [List.getElem?_map] at hd
    obtain ⟨a, ha, rfl⟩ := Option.map_eq_some_iff.mp hd
    have b := hw a (List.mem_of_getElem? ha)
    have hi := (List.getElem?_eq_some_iff.mp ha)
    obtain ⟨hi, e2⟩ := hi
    rw [List.drop_eq_getElem_cons hi, e2, List.foldl_cons] at e
    refine ⟨_, rfl, _, rfl, _, rfl, T, r, a, rfl, ht, hr, b.1, b.2, ?_⟩
    exact ⟨_, _, rfl, press_length _ _ _, e⟩
  · rintro s' ⟨x, r, rfl, hr, e⟩ X'
    rw [List.length_map, List.drop_length] at e
    have e : r = row T w := e
    subst e
    exact ⟨_, rfl, h⟩
theorem r_fallen (X : List Addr) (ds : List D) (k : Nat) (R : D → Nat → Prop) (h : sp_fallen ds k R) : t_fallen (En R) (St0 false 3 ds X k) := by
  obtain ⟨r, rfl, hr, h⟩ := h
  intro X
  have le : (enumD 0 (r.map D.int)).length = r.length := by rw [enum_len, List.length_map]
  refine ⟨_, rfl, _, rfl, by rw [le]; exact Nat.le_trans hr (by decide), fun p hp => ⟨fun j acc k' => k' = k ∧ acc = ((((List.range j).filter fun i => decide (r.getD i 0 < 0)).map fun (i : Nat) => (i : Int) + 1).map D.int), ⟨rfl, rfl⟩, ?_, ?_⟩⟩
  · rintro j d acc k' hd ⟨rfl, rfl⟩ hl
    have hj : j < r.length := by rw [← le]; exact (List.getElem?_eq_some_iff.mp hd).1
    obtain ⟨e, he, rfl⟩ := enum_at hd
    rw [List.getElem?_map, getD_get (d := 0) hj] at he
    cases he
    have st : (((List.range (j + 1)).filter fun i => decide (r.getD i 0 < 0)).map fun (i : Nat) => (i : Int) + 1) = ((List.range j).filter fun i => decide (r.getD i 0 < 0)).map (fun (i : Nat) => (i : Int) + 1) ++ if decide (r.getD j 0 < 0) = true then [(j : Int) + 1] else [] := by
      rw [List.range_succ, List.filter_append, List.map_append]
      congr 1
      by_cases h : r.getD j 0 < 0
      · rw [List.filter_cons, if_pos (decide_eq_true h), if_pos (decide_eq_true h)]; rfl
      · rw [List.filter_cons, if_neg (by rw [decide_eq_false h]; decide), if_neg (by rw [decide_eq_false h]; decide)]; rfl
    refine ⟨rfl, rfl, ⟨_, rfl, _, rfl, iteD (fun lt => ⟨_, rfl, rfl, ?_⟩) fun ge => ⟨rfl, ?_⟩⟩⟩
    · rw [st, if_pos (decide_eq_true lt), List.map_append]
      rw [show (((0 + j : Nat) : Int)) = (j : Int) by omega]
      rfl
    · rw [st, if_neg (by rw [decide_eq_false ge]; decide), List.append_nil]
  · rintro acc k' ⟨rfl, rfl⟩ hl
    rw [le]
    exact ⟨_, rfl, h⟩
end BW
namespace BW
open PySem L2 DL
theorem fall_mem {r : List Int} {a : Int} (h : a ∈ fall r) : ∃ i : Nat, a = (i : Int) + 1 ∧ i < r.length ∧ r.getD i 0 < 0 := by
  unfold fall at h
  obtain ⟨i, hi, rfl⟩ := List.mem_map.mp h
  obtain ⟨h1, h2⟩ := List.mem_filter.mp hi
  exact ⟨i, rfl, List.mem_range.mp h1, of_decide_eq_true h2⟩
theorem fall_length (r : List Int) : (fall r).length ≤ r.length := by
  unfold fall
  rw [List.length_map]
  exact Nat.le_trans (List.length_filter_le _ _) (by rw [List.length_range]; exact Nat.le_refl _)
theorem wd_nil {T : Mat} {n : Nat} {r : List Int} (h : fall r = []) : wd T n r = ([], r) := by
  cases n with
  | zero => rfl
  | succ n => unfold wd; rw [h]
theorem wd_cons {T : Mat} {n : Nat} {r : List Int} {a : Int} {q : List Int} (h : fall r = a :: q) : wd T (n + 1) r = (a :: (wd T n (press T r (ix a))).1, (wd T n (press T r (ix a))).2) := by
  conv => lhs; unfold wd
  rw [h]
theorem r_way_down (BC : Addr) (X : List Addr) (ds : List D) (k : Nat) (R : D → Nat → Prop) (h : sp_way_down BC ds k R) : t_way_down BC (En R) (St0 false 5 ds X k) := by
  obtain ⟨T, r, rfl, ht, hr, h⟩ := h
  have hT := ht.hi
  refine ⟨by decide, fun p hp => ?_⟩
  refine ⟨_, rfl, ?_⟩
  refine ⟨_, rfl, r, rfl, by omega, ?_⟩
  refine ⟨fun m s' => ∃ acc now : List Int, s' = ⟨p :: X, [.dat (bnd BC T), .dat (tI r), .own p (acc.map .int), .dat (tI now), .dat (tI (fall now))], k⟩ ∧ now.length = T.length ∧ m = 60 - acc.length ∧ acc.length ≤ 60 ∧ (acc ++ (wd T (60 - acc.length) now).1, (wd T (60 - acc.length) now).2) = wd T 60 r, ⟨60, [], r, rfl, hr, rfl, by decide, rfl⟩, ?_⟩
  rintro m s' ⟨acc, now, rfl, hn, rfl, hl, e⟩
  have done : wd T (60 - acc.length) now = ([], now) → (dRet (dTup (dCons (dVar 2) (dCons (dVar 3) dNil)))) (En R) ⟨p :: X, [.dat (bnd BC T), .dat (tI r), .own p (acc.map .int), .dat (tI now), .dat (tI (fall now))], k⟩ := fun q X' => by
    rw [q, List.append_nil] at e
    have e1 : acc = (wd T 60 r).1 := congrArg Prod.fst e
    have e2 : now = (wd T 60 r).2 := congrArg Prod.snd e
    refine ⟨_, rfl, _, rfl, by show 2 ≤ lim; decide, ?_⟩
    rw [← e1, ← e2] at h
    exact h
  cases hf : fall now with
  | nil =>
    rw [hf] at done
    exact ⟨_, rfl, _, rfl, iteF (iteF (done (wd_nil hf)))⟩
  | cons a q =>
    rw [hf] at done
    refine ⟨_, rfl, _, rfl, iteT ⟨_, rfl, _, rfl, ?_⟩⟩
    rw [List.length_map]
    refine iteD (fun lt => ?_) fun ge => ?_
    · obtain ⟨i, rfl, hi, _⟩ := fall_mem (by rw [hf]; exact List.mem_cons_self : a ∈ fall now)
      have hlt : acc.length < 60 := by omega
      refine ⟨p, _, rfl, _, rfl, 0, _, rfl, atI_nat (j := 0) rfl, by rw [List.length_map]; exact Nat.lt_of_lt_of_le hlt (by decide), ?_⟩
      refine ⟨_, rfl, _, rfl, _, rfl, 0, _, rfl, atI_nat (j := 0) rfl, T, now, (i : Int) + 1, rfl, ht, hn, by omega, by omega, ?_⟩
      refine ⟨_, rfl, _, rfl, by rw [press_length]; exact hT, ?_⟩
      obtain ⟨n, en⟩ : ∃ n, 60 - acc.length = n + 1 := ⟨60 - acc.length - 1, by omega⟩
      have en2 : 60 - (acc ++ [(i : Int) + 1]).length = n := by rw [List.length_append, List.length_singleton]; omega
      refine ⟨n, by omega, acc ++ [(i : Int) + 1], _, by rw [List.map_append]; rfl, press_length _ _ _, en2.symm, by rw [List.length_append, List.length_singleton]; omega, ?_⟩
      rw [en2]
      rw [en, wd_cons hf] at e
      rw [← e, List.append_assoc]
      rfl
    · have : 60 - acc.length = 0 := by omega
      exact done (by rw [this]; rfl)
theorem row_length (T : Mat) (w : List Int) : (row T w).length = T.length := by
  unfold row
  have : ∀ (w : List Int) (r : List Int), r.length = T.length → (w.foldl (fun r a => press T r (ix a)) r).length = T.length := by
    intro w
    induction w with
    | nil => exact fun _ h => h
    | cons a w ih => exact fun r _ => ih _ (press_length _ _ _)
  exact this w _ (by unfold one; rw [List.length_replicate])
theorem r_row_of (BC : Addr) (X : List Addr) (ds : List D) (k : Nat) (R : D → Nat → Prop) (h : sp_row_of BC ds k R) : t_row_of BC (En R) (St0 false 2 ds X k) := by
  obtain ⟨T, d, w, rfl, ht, hw, hl, hd, h⟩ := h
  intro X
  refine ⟨_, rfl, _, rfl, _, rfl, ⟨_, _, rfl⟩, T, rfl, ht.hi, T.length, rfl, by have := ht.hi; omega, ?_⟩
  exact ⟨d, w, T.length, rfl, hw, hl, hd, T, _, w, rfl, ht, .inr rfl, hd, h⟩
end BW
namespace BW
open PySem L2 DL
theorem r__law_mixed (X : List Addr) (ds : List D) (k : Nat) (R : D → Nat → Prop) (h : sp__law_mixed ds k R) : t__law_mixed (En R) (St0 false 3 ds X k) := by
  obtain ⟨a, n, rfl, a0, a1, n0, n1, h⟩ := h
  (repeat (first | with_reducible refine ⟨_, rfl, ?_⟩ | refine ⟨_, rfl, ?_⟩ | refine And.intro (by (first | omega | exact Or.inl ⟨by omega, by omega⟩ | exact Or.inr ⟨by omega, by omega⟩ | exact wide_div (b := 40) (by omega) (by omega) (by decide) (by decide) | exact ⟨by omega, by omega⟩ | exact ⟨by omega, by omega, by omega⟩ | exact ⟨by omega, by omega, by omega, by omega⟩ | decide)) ?_))
  intro X
  (repeat (first | with_reducible refine ⟨_, rfl, ?_⟩ | refine ⟨_, rfl, ?_⟩ | refine And.intro (by (first | omega | exact Or.inl ⟨by omega, by omega⟩ | exact Or.inr ⟨by omega, by omega⟩ | exact wide_div (b := 40) (by omega) (by omega) (by decide) (by decide) | exact ⟨by omega, by omega⟩ | exact ⟨by omega, by omega, by omega⟩ | exact ⟨by omega, by omega, by omega, by omega⟩ | decide)) ?_))
  refine h _ ?_ ?_
  · omega
  · omega
theorem look_dix {k : Int} (h : k = 2 ∨ k = 3 ∨ k = 4 ∨ k = 6 ∨ k = 0) : lookI [((2 : Int), D.tup [.int 0, .int 0]), (3, .tup [.int 1, .int 1]), (4, .tup [.int 1, .int 2]), (6, .tup [.int 1, .int 3]), (0, .tup [.int 2, .int 2])] k = some (tI [(wts k).1, (wts k).2]) := look_wts h
theorem wt_bd (T : Mat) (i j : Nat) : -(2 ^ 64) < wt T i j ∧ wt T i j < 2 ^ 64 := by
  unfold wt wts
  split
  · exact ⟨by decide, by decide⟩
  · split <;> split <;> first | exact ⟨by decide, by decide⟩ | (split <;> first | exact ⟨by decide, by decide⟩ | (split <;> first | exact ⟨by decide, by decide⟩ | (split <;> exact ⟨by decide, by decide⟩)))
end BW
namespace BW
open PySem L2 DL
inductive Deed where
  | inn (k : Nat) (a : Int) | out (k : Nat) | turn (k : Nat)
def Deed.d : Deed → D
  | .inn k a => .tup [.str "in", .int k, .int a]
  | .out k => .tup [.str "out", .int k]
  | .turn k => .tup [.str "turn", .int k]
def Deed.k : Deed → Nat
  | .inn k _ => k
  | .out k => k
  | .turn k => k
def mv (T : Mat) (w : List Int) : Deed → Option (List Int)
  | .inn k a => some ((w.take k ++ [a, a]) ++ w.drop k)
  | .out k => if k + 1 < w.length ∧ w.getD k 0 = w.getD (k + 1) 0 then some (w.take k ++ w.drop (k + 2)) else none
  | .turn k => if k + 1 < w.length ∧ w.getD k 0 ≠ w.getD (k + 1) 0 then
      (let a := w.getD k 0
       let b := w.getD (k + 1) 0
       let m := (at2 T (ix a) (ix b)).toNat
       if m ≠ 0 ∧ (w.drop k).take m = alt a b m then some ((w.take k ++ alt b a m) ++ w.drop (k + m)) else none) else none
theorem mv_out (T : Mat) (w : List Int) (k : Nat) : mv T w (.out k) = if k + 1 < w.length ∧ w.getD k 0 = w.getD (k + 1) 0 then some (w.take k ++ w.drop (k + 2)) else none := rfl
theorem mv_turn (T : Mat) (w : List Int) (k : Nat) : mv T w (.turn k) = if k + 1 < w.length ∧ w.getD k 0 ≠ w.getD (k + 1) 0 then
      (if (at2 T (ix (w.getD k 0)) (ix (w.getD (k + 1) 0))).toNat ≠ 0 ∧ (w.drop k).take (at2 T (ix (w.getD k 0)) (ix (w.getD (k + 1) 0))).toNat = alt (w.getD k 0) (w.getD (k + 1) 0) (at2 T (ix (w.getD k 0)) (ix (w.getD (k + 1) 0))).toNat then some ((w.take k ++ alt (w.getD (k + 1) 0) (w.getD k 0) (at2 T (ix (w.getD k 0)) (ix (w.getD (k + 1) 0))).toNat) ++ w.drop (k + (at2 T (ix (w.getD k 0)) (ix (w.getD (k + 1) 0))).toNat)) else none) else none := rfl
end BW
namespace BW
open PySem L2 DL
theorem range_step {α : Type} (f : Nat → α) (j : Nat) : (List.range (j + 1)).map f = (List.range j).map f ++ [f j] := by rw [List.range_succ, List.map_append]; rfl
end BW
namespace BW
open PySem L2 DL
theorem alt_length (a b : Int) (n : Nat) : (alt a b n).length = n := by unfold alt; rw [List.length_map, List.length_range]
theorem alt_mem {a b x : Int} {n : Nat} (h : x ∈ alt a b n) : x = a ∨ x = b := by
  unfold alt at h
  obtain ⟨i, _, rfl⟩ := List.mem_map.mp h
  by_cases c : i % 2 = 0
  · rw [if_pos c]; exact .inl rfl
  · rw [if_neg c]; exact .inr rfl
def Deed.fits (n m : Nat) : Deed → Prop
  | .inn k a => k ≤ m ∧ 1 ≤ a ∧ a ≤ n
  | _ => True
theorem mv_wd {T : Mat} {w v : List Int} {e : Deed} (hw : Wd T.length w) (he : e.fits T.length w.length) (h : mv T w e = some v) : Wd T.length v := by
  have tk : ∀ n x, x ∈ w.take n → x ∈ w := fun n x h => List.mem_of_mem_take h
  have dp : ∀ n x, x ∈ w.drop n → x ∈ w := fun n x h => List.mem_of_mem_drop h
  cases e with
  | inn k a =>
    have h : (w.take k ++ [a, a]) ++ w.drop k = v := Option.some.inj h
    subst h
    intro x hx
    rcases List.mem_append.mp hx with hx | hx
    · rcases List.mem_append.mp hx with hx | hx
      · exact hw x (tk _ _ hx)
      · simp at hx
        subst hx
        exact he.2
    · exact hw x (dp _ _ hx)
  | out k =>
    rw [mv_out] at h
    split at h
    · cases h
      intro x hx
      rcases List.mem_append.mp hx with hx | hx
      · exact hw x (tk _ _ hx)
      · exact hw x (dp _ _ hx)
    · cases h
  | turn k =>
    rw [mv_turn] at h
    split at h
    · rename_i c
      split at h
      · cases h
        have ma := hw (w.getD k 0) (List.mem_of_getElem? (getD_get (d := 0) (by omega : k < w.length)))
        have mb := hw (w.getD (k + 1) 0) (List.mem_of_getElem? (getD_get (d := 0) c.1))
        intro x hx
        rcases List.mem_append.mp hx with hx | hx
        · rcases List.mem_append.mp hx with hx | hx
          · exact hw x (tk _ _ hx)
          · rcases alt_mem hx with e | e
            · rw [e]; exact mb
            · rw [e]; exact ma
        · exact hw x (dp _ _ hx)
      · cases h
    · cases h
def Deed.isIn : Deed → Bool
  | .inn _ _ => true
  | _ => false
theorem mv_len {T : Mat} {w v : List Int} {e : Deed} (h : mv T w e = some v) : v.length ≤ w.length + (if e.isIn = true then 2 else 0) := by
  cases e with
  | inn k a =>
    have h : (w.take k ++ [a, a]) ++ w.drop k = v := Option.some.inj h
    subst h
    show _ ≤ w.length + 2
    rw [List.length_append, List.length_append, List.length_take, List.length_drop]
    show min k w.length + 2 + (w.length - k) ≤ _
    omega
  | out k =>
    rw [mv_out] at h
    split at h
    · cases h
      show _ ≤ w.length + 0
      rw [List.length_append, List.length_take, List.length_drop]
      omega
    · cases h
  | turn k =>
    rw [mv_turn] at h
    split at h
    · rename_i c
      split at h
      · rename_i c2
        cases h
        show _ ≤ w.length + 0
        have l := congrArg List.length c2.2
        rw [alt_length, List.length_take, List.length_drop] at l
        rw [List.length_append, List.length_append, alt_length, List.length_take, List.length_drop]
        omega
      · cases h
    · cases h
end BW
namespace BW
open PySem L2 DL
def exLE (K : PySem.W.Frag) (t : DE) : TE := fun σ H Q => ∃ c, c.K = K ∧ LE c t σ H Q
theorem PE.exE {X : Cx} {e : Expr} {K : PySem.W.Frag} {t : DE} (h : ∀ c, c.K = K → PE X e (LE c t)) : PE X e (exLE K t) := ⟨fun pins s σ H Q I ⟨c, hc, q⟩ => (h c hc).run pins s σ H Q I q⟩
structure Mx (H : Hp) (p : Addr) (qs : List Addr) (M : Mat) : Prop where
  top : H p = some (.lst (qs.map V.ref))
  len : qs.length = M.length
  row : ∀ (i : Nat) (q : Addr) (r : List Int), qs[i]? = some q → M[i]? = some r → H q = some (.lst (r.map V.int))
  nd : qs.Nodup
  out : p ∉ qs
theorem Mx.set {H : Hp} {p q : Addr} {qs : List Addr} {M : Mat} {i : Nat} (h : Mx H p qs M) (hq : qs[i]? = some q) (r' : List Int) : Mx (upd H q (.lst (r'.map V.int))) p qs (M.set i r') := by
  have mem := List.mem_of_getElem? hq
  have npq : p ≠ q := fun z => h.out (z ▸ mem)
  refine ⟨by rw [upd_ne npq]; exact h.top, by rw [List.length_set]; exact h.len, fun j q2 r2 h1 h2 => ?_, h.nd, h.out⟩
  by_cases e : j = i
  · subst e
    rw [hq] at h1
    cases h1
    have hl : j < M.length := by have := (List.getElem?_eq_some_iff.mp h2).1; rw [List.length_set] at this; exact this
    rw [List.getElem?_set_self hl] at h2
    cases h2
    exact upd_same
  · rw [List.getElem?_set_ne (fun z => e z.symm)] at h2
    have ne : q2 ≠ q := fun z => e (by
      subst z
      obtain ⟨h3, e3⟩ := List.getElem?_eq_some_iff.mp h1
      obtain ⟨h4, e4⟩ := List.getElem?_eq_some_iff.mp hq
      exact (List.getElem_inj h.nd).mp (e3.trans e4.symm))
    rw [upd_ne ne]
    exact h.row j q2 r2 h1 h2
structure Keep (M : Option Mc) (X0 : List Addr) (H H' : Hp) : Prop where
  ob : ∀ a o, a ∉ Ml M → H a = some o → NoTb o → H' a = some o
  tb : TbK H H'
  old : ∀ a ∈ X0, H' a = H a
theorem Keep.at {M : Option Mc} {X0 : List Addr} {H H' : Hp} (k : Keep M X0 H H') {a : Addr} {o : HO} (n : a ∉ Ml M) (e : H a = some o) (h : NoTb o := by intro _ z; cases z) : H' a = some o := k.ob a o n e h
theorem Keep.refl {M : Option Mc} {X0 : List Addr} {H : Hp} : Keep M X0 H H := ⟨fun _ _ _ h _ => h, .refl, fun _ _ => rfl⟩
theorem Keep.trans {M : Option Mc} {X0 : List Addr} {H H1 H2 : Hp} (a : Keep M X0 H H1) (b : Keep M X0 H1 H2) : Keep M X0 H H2 := ⟨fun x o n h t => b.ob x o n (a.ob x o n h t) t, a.tb.trans b.tb, fun x h => (b.old x h).trans (a.old x h)⟩
theorem Keep.new {M : Option Mc} {X0 : List Addr} {H H1 : Hp} {p : Addr} {o : HO} (k : Keep M X0 H H1) (xs : ∀ a ∈ X0, H a ≠ none) (h : H1 p = none) : Keep M X0 H (upd H1 p o) := ⟨fun a u n e t => by rw [upd_ne (ne_of_none (k.ob a u n e t) h)]; exact k.ob a u n e t, k.tb.trans (.new h), fun a ha => by
  rw [upd_ne (fun z => xs a ha (by rw [← k.old a ha, z]; exact h))]; exact k.old a ha⟩
theorem Keep.mut {M : Option Mc} {X0 : List Addr} {H H1 : Hp} {p : Addr} {o : HO} (k : Keep M X0 H H1) (xs : ∀ a ∈ X0, H a ≠ none) (h : H p = none) (tb : TbK H1 (upd H1 p o)) : Keep M X0 H (upd H1 p o) := ⟨fun a u n e t => by rw [upd_ne (ne_of_none e h)]; exact k.ob a u n e t, k.tb.trans tb, fun a ha => by
  rw [upd_ne (fun z => xs a ha (by rw [z]; exact h))]; exact k.old a ha⟩
theorem Keep.rep {c : C} {s : S} {σ : L2.St} {H2 : Hp} (r : Rep c s σ H2) (xm : ∀ a ∈ c.X0, a ∉ Ml c.M) (xs : ∀ a ∈ c.X0, c.H0 a ≠ none) : Keep c.M c.X0 c.H0 H2 := ⟨fun a o n e t => by
  by_cases z : a ∈ c.X0
  · rw [r.old a z n (xs a z)]; exact e
  · exact (wo_ne (r.sub a o (wo_of (fun y => (List.mem_append.mp y).elim n z) e t))).2, r.tb, fun a ha => r.old a ha (xm a ha) (xs a ha)⟩
theorem Keep.fresh {M : Option Mc} {X0 : List Addr} {H H' : Hp} (k : Keep M X0 H H') {a : Addr} (n : a ∉ Ml M) (h : H' a = none) : H a = none := by
  cases e : H a with
  | none => rfl
  | some o =>
    by_cases t : NoTb o
    · rw [k.ob a o n e t] at h; cases h
    · refine (t fun ps z => ?_).elim
      subst z
      obtain ⟨qs, q⟩ := k.tb.tbl a ps e
      rw [h] at q; cases q
theorem rep_of {K : PySem.W.Frag} {M : Option Mc} {X0 : List Addr} {H : Hp} {σ : L2.St} {sl : List Sl} {k : Nat} (xm : ∀ a ∈ X0, a ∉ Ml M) (xs : ∀ a ∈ X0, H a ≠ none) (xt : ∀ a ∈ X0, ∀ ps, H a ≠ some (.tbl ps)) (hl : sl.length = σ.length) (hm : MAt M H k) (h : ∀ (i : Nat) (x : Sl), sl[i]? = some x → SlOk ⟨K, M, X0, H, []⟩ X0 H σ[i]? x)
    (no : ∀ (i : Nat) (p : Addr) (ds : List D), sl[i]? ≠ some (.own p ds)) : Rep ⟨K, M, X0, H, []⟩ ⟨X0, sl, k⟩ σ H :=
  ⟨Sub.refl _, fun _ _ _ _ => rfl, fun _ h => h, xm, xs, hm, h, fun i j p q ds es e _ _ => absurd e (no i p ds), hl, .refl, xt⟩
def kin (n : Nat) (f : Bool) (c : Nat) : Int := if f = true ∧ c + 2 = n then 4 else 3
def pmE (n : Nat) (f : Bool) (a i j : Nat) : Int := if i = j then 1 else if j = i + 1 ∧ i < a then kin n f i else if i = j + 1 ∧ j < a then kin n f j else 2
def pm (n : Nat) (f : Bool) (a : Nat) : Mat := (List.range n).map fun i => (List.range n).map fun j => pmE n f a i j
theorem RlA_of {K : PySem.W.Frag} {A : Hp} : ∀ {vs : List V} {ds : List D}, vs.length = ds.length → (∀ (i : Nat) (v : V) (d : D), vs[i]? = some v → ds[i]? = some d → Rl K A v d) → RlA K A vs ds
  | [], [], _, _ => .nil
  | [], _ :: _, h, _ => by cases h
  | _ :: _, [], h, _ => by cases h
  | v :: vs, d :: ds, h, f => .cons (f 0 v d rfl rfl) (RlA_of (Nat.succ.inj h) fun i x y h1 h2 => f (i + 1) x y h1 h2)
theorem Mx.rl {K : PySem.W.Frag} {H : Hp} {p : Addr} {qs : List Addr} {M : Mat} {hid : List Addr} (h : Mx H p qs M) (hp : p ∉ hid) (hq : ∀ q ∈ qs, q ∉ hid) : Rl K (wo H hid) (.ref p) (lM M) := by
  refine .lst (wo_of hp h.top) (RlA_of (by rw [List.length_map, List.length_map]; exact h.len) fun i v d h1 h2 => ?_)
  rw [List.getElem?_map] at h1 h2
  obtain ⟨q, hq1, rfl⟩ := Option.map_eq_some_iff.mp h1
  obtain ⟨r, hr, rfl⟩ := Option.map_eq_some_iff.mp h2
  exact .lst (wo_of (hq q (List.mem_of_getElem? hq1)) (h.row i q r hq1 hr)) (RlA.ints r)
theorem Keep.aft {K : PySem.W.Frag} {M : Option Mc} {X0 : List Addr} {H H' : Hp} {k : Nat} (h : Keep M X0 H H') (hm : MAt M H' k) : Aft K M X0 H H' k := by
  refine ⟨fun a o e => ?_, h.old, hm, h.tb⟩
  have t := wo_tb e
  obtain ⟨n, e⟩ := wo_ne e
  exact wo_of n (h.ob a o (fun z => n (List.mem_append_left _ z)) e t) t
theorem seqAsg {te : TE} {g : TG} {u : TS} {D : Ends} {σ : L2.St} {H : Hp} (h : te σ H fun x H1 => g x σ H1 (u D)) : tSeq (tAsg te g) u D σ H := h
theorem Mx.keepT {H : Hp} {p : Addr} {qs : List Addr} {M : Mat} {T : Addr} {o : HO} (h : Mx H p qs M) (hT : H T = none) : Mx (upd H T o) p qs M :=
  ⟨by rw [upd_ne (ne_of_none h.top hT)]; exact h.top, h.len, fun i q r h1 h2 => by rw [upd_ne (ne_of_none (h.row i q r h1 h2) hT)]; exact h.row i q r h1 h2, h.nd, h.out⟩
theorem set_range {β : Type} {n : Nat} {g g' : Nat → β} {i : Nat} {v : β} (h : ∀ j, j < n → g' j = if j = i then v else g j) : ((List.range n).map g).set i v = (List.range n).map g' := by
  refine List.ext_getElem? fun j => ?_
  rw [List.getElem?_set]
  by_cases hj : j < n
  · rw [List.length_map, List.length_range, List.getElem?_map, List.getElem?_map, List.getElem?_range hj]
    by_cases e : i = j
    · subst e
      rw [if_pos rfl, if_pos hj]
      show some v = some (g' i)
      rw [h i hj, if_pos rfl]
    · rw [if_neg e]
      show some (g j) = some (g' j)
      rw [h j hj, if_neg (fun z => e z.symm)]
  · have e1 : ((List.range n).map g)[j]? = none := by rw [List.getElem?_map, List.getElem?_eq_none (by rw [List.length_range]; omega)]; rfl
    have e2 : ((List.range n).map g')[j]? = none := by rw [List.getElem?_map, List.getElem?_eq_none (by rw [List.length_range]; omega)]; rfl
    rw [e1, e2]
    by_cases e : i = j
    · rw [if_pos e, if_neg (by rw [List.length_map, List.length_range]; omega)]
    · rw [if_neg e]
theorem getD_range {β : Type} {n i : Nat} {g : Nat → β} {d : β} (h : i < n) : ((List.range n).map g).getD i d = g i := by
  rw [List.getD_eq_getElem?_getD, List.getElem?_map, List.getElem?_range h]
  rfl
end BW
namespace BW
open PySem L2 DL
theorem ix_succ (i : Nat) : ix ((i : Int) + 1) = i := by unfold ix; omega
theorem ext_getD {p q : List Int} (hl : p.length = q.length) (h : ∀ j, j < p.length → p.getD j 0 = q.getD j 0) : p = q := by
  refine List.ext_getElem? fun j => ?_
  by_cases hj : j < p.length
  · rw [getD_get (d := 0) hj, getD_get (d := 0) (by omega), h j hj]
  · rw [List.getElem?_eq_none (by omega), List.getElem?_eq_none (by omega)]
end BW
namespace BW
open PySem L2 DL
theorem wts_of {k : Int} (h : k = 2 ∨ k = 3 ∨ k = 4 ∨ k = 6 ∨ k = 0) : wts k = (0, 0) ∧ k = 2 ∨ wts k = (1, 1) ∧ k = 3 ∨ wts k = (1, 2) ∧ k = 4 ∨ wts k = (1, 3) ∧ k = 6 ∨ wts k = (2, 2) ∧ k = 0 := by
  rcases h with rfl | rfl | rfl | rfl | rfl
  · exact .inl ⟨rfl, rfl⟩
  · exact .inr (.inl ⟨rfl, rfl⟩)
  · exact .inr (.inr (.inl ⟨rfl, rfl⟩))
  · exact .inr (.inr (.inr (.inl ⟨rfl, rfl⟩)))
  · exact .inr (.inr (.inr (.inr ⟨rfl, rfl⟩)))
theorem wt_two {T : Mat} (ht : Tab T) {i j : Nat} (hi : i < T.length) (hj : j < T.length) (ne : i ≠ j) :
    (at2 T i j = 2 ∧ wt T i j = 0 ∧ wt T j i = 0) ∨ (at2 T i j = 3 ∧ wt T i j = 1 ∧ wt T j i = 1) ∨ (at2 T i j = 4 ∧ wt T i j = 1 ∧ wt T j i = 2) ∨ (at2 T i j = 4 ∧ wt T i j = 2 ∧ wt T j i = 1) ∨ (at2 T i j = 6 ∧ wt T i j = 1 ∧ wt T j i = 3) ∨ (at2 T i j = 6 ∧ wt T i j = 3 ∧ wt T j i = 1) ∨ (at2 T i j = 0 ∧ wt T i j = 2 ∧ wt T j i = 2) := by
  have sy := ht.sy i j hi hj
  have w1 : wt T i j = if i < j then (wts (at2 T i j)).1 else (wts (at2 T i j)).2 := by unfold wt; rw [if_neg ne]
  have w2 : wt T j i = if j < i then (wts (at2 T i j)).1 else (wts (at2 T i j)).2 := by unfold wt; rw [if_neg (fun z => ne z.symm), ← sy]
  by_cases h : i < j
  · rw [if_pos h] at w1
    rw [if_neg (by omega)] at w2
    rcases wts_of (ht.of i j hi hj ne) with ⟨e, e2⟩ | ⟨e, e2⟩ | ⟨e, e2⟩ | ⟨e, e2⟩ | ⟨e, e2⟩ <;> rw [e] at w1 w2 <;> simp only [] at w1 w2 <;> omega
  · rw [if_neg h] at w1
    rw [if_pos (by omega)] at w2
    rcases wts_of (ht.of i j hi hj ne) with ⟨e, e2⟩ | ⟨e, e2⟩ | ⟨e, e2⟩ | ⟨e, e2⟩ | ⟨e, e2⟩ <;> rw [e] at w1 w2 <;> simp only [] at w1 w2 <;> omega
theorem car_of {T : Mat} (ht : Tab T) : TT.Car T.length (wt T) := by
  refine ⟨fun i _ => by unfold wt; rw [if_pos rfl], fun i j hi hj ne => ?_⟩
  have := wt_two ht hi hj ne
  omega
def pg (n : Nat) (r : List Int) (x : TT.Vec) : Int := TT.sm (fun j => r.getD j 0 * x j) n
theorem pg_mv {n : Nat} {r : List Int} {x : TT.Vec} {t : Int} {b : Nat} (hb : b < n) : pg n r (TT.mv x t b) = pg n r x + r.getD b 0 * t := by
  unfold pg
  rw [TT.sm_congr (g := fun a => r.getD a 0 * x a + t * (r.getD a 0 * TT.eb b a)) (fun j _ => by rw [TT.mv_dif, Int.mul_add, Int.mul_left_comm]), TT.sm_add, TT.sm_mul, TT.sm_eb hb, Int.mul_comm t]
theorem press_get {T : Mat} {r : List Int} {i j : Nat} (hj : j < T.length) : (press T r i).getD j 0 = r.getD j 0 + wt T i j * r.getD i 0 := by unfold press; rw [getD_range hj]
theorem press_len (T : Mat) (r : List Int) (i : Nat) : (press T r i).length = T.length := by unfold press; rw [List.length_map, List.length_range]
theorem pg_press {T : Mat} {r : List Int} {x : TT.Vec} {i : Nat} (hi : i < T.length) : pg T.length (press T r i) x = pg T.length r (TT.sg T.length (wt T) i x) := by
  unfold TT.sg
  rw [pg_mv hi]
  unfold pg TT.pr
  rw [TT.sm_congr (g := fun j => r.getD j 0 * x j + r.getD i 0 * (wt T i j * x j)) (fun j hj => by
    rw [press_get hj, Int.add_mul, Int.mul_comm (wt T i j) (r.getD i 0), Int.mul_assoc]), TT.sm_add, TT.sm_mul]
def pl (T : Mat) (r : List Int) (w : List Int) : List Int := w.foldl (fun r a => press T r (ix a)) r
theorem row_pl (T : Mat) (w : List Int) : row T w = pl T (one T) w := rfl
theorem pl_len {T : Mat} : ∀ {w : List Int} {r : List Int}, r.length = T.length → (pl T r w).length = T.length
  | [], _, h => h
  | a :: w, r, h => pl_len (w := w) (press_len T r (ix a))
theorem ix_lt {n : Nat} {a : Int} (h : 1 ≤ a ∧ a ≤ n) : ix a < n := by unfold ix; omega
theorem lets_of {n : Nat} {w : List Int} (h : Wd n w) : TT.lets n (w.map ix) := fun a ha => by
  obtain ⟨z, hz, rfl⟩ := List.mem_map.mp ha
  exact ix_lt (h z hz)
theorem pg_pl {T : Mat} {x : TT.Vec} : ∀ {w : List Int} {r : List Int}, Wd T.length w → pg T.length (pl T r w) x = pg T.length r (TT.act T.length (wt T) (w.map ix) x)
  | [], _, _ => rfl
  | a :: w, r, h => by
    show pg T.length (pl T (press T r (ix a)) w) x = pg T.length r (TT.sg T.length (wt T) (ix a) (TT.act T.length (wt T) (w.map ix) x))
    rw [pg_pl (fun z hz => h z (List.mem_cons_of_mem _ hz)), pg_press (ix_lt (h a List.mem_cons_self))]
theorem pg_eb {n : Nat} {r : List Int} {c : Nat} (hc : c < n) : pg n r (TT.eb c) = r.getD c 0 := TT.sm_eb (f := fun j => r.getD j 0) hc
theorem pg_one {T : Mat} {x : TT.Vec} : pg T.length (one T) x = TT.sm x T.length := by
  refine TT.sm_congr fun j hj => ?_
  have : (one T).getD j 0 = 1 := by unfold one; rw [List.getD_eq_getElem?_getD, List.getElem?_replicate, if_pos hj]; rfl
  rw [this, Int.one_mul]
theorem row_hv {T : Mat} {w : List Int} (h : Wd T.length w) {c : Nat} (hc : c < T.length) : (row T w).getD c 0 = TT.hv T.length (wt T) (w.map ix) c := by
  rw [← pg_eb hc, row_pl, pg_pl h, pg_one]
  rfl
theorem one_len (T : Mat) : (one T).length = T.length := by unfold one; exact List.length_replicate
theorem row_eq_iff {T : Mat} {w v : List Int} (hw : Wd T.length w) (hv : Wd T.length v) : row T w = row T v ↔ TT.Rw T.length (wt T) (w.map ix) (v.map ix) := by
  constructor
  · intro h c hc
    rw [← row_hv hw hc, ← row_hv hv hc, h]
  · intro h
    refine ext_getD (by rw [row_length, row_length]) fun j hj => ?_
    rw [row_length] at hj
    rw [row_hv hw hj, row_hv hv hj]
    exact h j hj
theorem row_nz {T : Mat} (ht : Tab T) {w : List Int} (hw : Wd T.length w) {c : Nat} (hc : c < T.length) : (row T w).getD c 0 ≠ 0 := by
  rw [row_hv hw hc]
  exact TT.hv_ne (car_of ht) hc (lets_of hw)
theorem row_snoc {T : Mat} {w : List Int} {a : Int} : row T (w ++ [a]) = press T (row T w) (ix a) := by unfold row; rw [List.foldl_append]; rfl
theorem wd_app {n : Nat} {u v : List Int} (hu : Wd n u) (hv : Wd n v) : Wd n (u ++ v) := fun a ha => (List.mem_append.mp ha).elim (hu a) (hv a)
theorem wd_one {n : Nat} {i : Nat} (h : i < n) : Wd n [(i : Int) + 1] := fun a ha => by simp at ha; omega
abbrev LN (T : Mat) (w : List Int) (k : Nat) : Prop := TT.Ln T.length (wt T) (w.map ix) k
theorem fall_none {r : List Int} (h : fall r = []) {c : Nat} (hc : c < r.length) : 0 ≤ r.getD c 0 := by
  unfold fall at h
  have h2 := List.map_eq_nil_iff.mp h
  by_cases q : r.getD c 0 < 0
  · have : c ∈ (List.range r.length).filter fun i => decide (r.getD i 0 < 0) := List.mem_filter.mpr ⟨List.mem_range.mpr hc, decide_eq_true q⟩
    rw [h2] at this
    cases this
  · omega
theorem LN.none {T : Mat} (ht : Tab T) {w : List Int} (hw : Wd T.length w) {k : Nat} (h : LN T w k) (hf : fall (row T w) = []) : k = 0 ∧ row T w = one T := by
  have hk : k = 0 := h.of_pos (car_of ht) (lets_of hw) fun c hc => by
    have h1 := fall_none hf (c := c) (by rw [row_length]; exact hc)
    have h2 := row_nz ht hw hc
    rw [row_hv hw hc] at h1 h2
    omega
  refine ⟨hk, ext_getD (by rw [row_length, one_len]) fun j hj => ?_⟩
  rw [row_length] at hj
  rw [row_hv hw hj]
  subst hk
  rw [h.zero j hj]
  unfold one
  rw [List.getD_eq_getElem?_getD, List.getElem?_replicate, if_pos hj]
  rfl
theorem LN.step {T : Mat} (ht : Tab T) {w : List Int} (hw : Wd T.length w) {k : Nat} (h : LN T w k) {a : Int} (ha : a ∈ fall (row T w)) : ∃ j, k = j + 1 ∧ LN T (w ++ [a]) j ∧ Wd T.length (w ++ [a]) ∧ press T (row T w) (ix a) = row T (w ++ [a]) := by
  obtain ⟨i, rfl, hi, hn⟩ := fall_mem ha
  rw [row_length] at hi
  have ei : ix ((i : Int) + 1) = i := by unfold ix; omega
  rw [row_hv hw hi] at hn
  obtain ⟨j, e, hj⟩ := h.down (car_of ht) hi (lets_of hw) hn
  refine ⟨j, e, ?_, wd_app hw (wd_one hi), row_snoc.symm⟩
  show TT.Ln T.length (wt T) ((w ++ [(i : Int) + 1]).map ix) j
  rw [List.map_append, List.map_cons, List.map_nil, ei]
  exact hj
theorem wd_len {T : Mat} (ht : Tab T) : ∀ (k : Nat) {w : List Int} {f : Nat}, Wd T.length w → LN T w k → k ≤ f → (wd T f (row T w)).1.length = k ∧ (wd T f (row T w)).2 = one T
  | k, w, f, hw, h, hf => by
    cases e : fall (row T w) with
    | nil =>
      obtain ⟨rfl, e2⟩ := h.none ht hw e
      rw [wd_nil e]
      exact ⟨rfl, e2⟩
    | cons a q =>
      obtain ⟨j, rfl, h1, h2, h3⟩ := h.step ht hw (a := a) (by rw [e]; exact List.mem_cons_self)
      obtain ⟨g, rfl⟩ : ∃ g, f = g + 1 := ⟨f - 1, by omega⟩
      rw [wd_cons e, h3]
      obtain ⟨i1, i2⟩ := wd_len ht j (f := g) h2 h1 (by omega)
      refine ⟨?_, i2⟩
      show (wd T g (row T (w ++ [a]))).1.length + 1 = j + 1
      rw [i1]
theorem LN.has {T : Mat} {w : List Int} (hw : Wd T.length w) : ∃ k, LN T w k ∧ k ≤ w.length := by
  obtain ⟨k, h⟩ := TT.Ln.has (W := wt T) (lets_of hw)
  exact ⟨k, h, by have := h.le_len (lets_of hw); rw [List.length_map] at this; exact this⟩
section
variable {n : Nat} {W : Nat → Nat → Int}
theorem sgV_b (C : TT.Car n W) {b c : Nat} (hb : b < n) (hc : c < n) (ne : c ≠ b) {x : TT.Vec} {s t : Int} : TT.sg n W b (TT.VV x b c s t) = TT.VV x b c (TT.pr n W b x - s + W b c * t) t := by
  unfold TT.sg
  rw [TT.pr_mv hc, TT.pr_mv hb, C.dg b hb, TT.mv_comm ne, TT.mv_mv]
  congr 2
  omega
theorem sgV_c (C : TT.Car n W) {b c : Nat} (hb : b < n) (hc : c < n) {x : TT.Vec} {s t : Int} : TT.sg n W c (TT.VV x b c s t) = TT.VV x b c s (TT.pr n W c x + W c b * s - t) := by
  unfold TT.sg
  rw [TT.pr_mv hc, TT.pr_mv hb, C.dg c hc, TT.mv_mv]
  congr 1
  omega
theorem V00 {b c : Nat} {x : TT.Vec} : x = TT.VV x b c 0 0 := by
  show x = TT.mv (TT.mv x 0 b) 0 c
  rw [TT.mv_zero, TT.mv_zero]
def alN (a b : Nat) : Nat → List Nat
  | 0 => []
  | k + 1 => a :: alN b a k
theorem braid (C : TT.Car n W) {b c : Nat} (hb : b < n) (hc : c < n) (ne : b ≠ c) {m : Nat} (hm : (m = 2 ∧ W b c = 0 ∧ W c b = 0) ∨ (m = 3 ∧ W b c = 1 ∧ W c b = 1) ∨ (m = 4 ∧ W b c = 1 ∧ W c b = 2) ∨ (m = 4 ∧ W b c = 2 ∧ W c b = 1) ∨ (m = 6 ∧ W b c = 1 ∧ W c b = 3) ∨ (m = 6 ∧ W b c = 3 ∧ W c b = 1)) (x : TT.Vec) :
    TT.act n W (alN b c m) x = TT.act n W (alN c b m) x := by
  have hB := fun s t => sgV_b C hb hc (fun z => ne z.symm) (x := x) (s := s) (t := t)
  have hC := fun s t => sgV_c C hb hc (x := x) (s := s) (t := t)
  have h0 := V00 (b := b) (c := c) (x := x)
  generalize TT.pr n W b x = P at hB
  generalize TT.pr n W c x = Q at hC
  generalize hV : TT.VV x b c = V at *
  rcases hm with ⟨rfl, u, v⟩ | ⟨rfl, u, v⟩ | ⟨rfl, u, v⟩ | ⟨rfl, u, v⟩ | ⟨rfl, u, v⟩ | ⟨rfl, u, v⟩ <;> rw [u] at hB <;> rw [v] at hC <;> rw [h0] <;> unfold TT.act <;> simp only [alN, List.foldr_cons, List.foldr_nil, hB, hC] <;> congr 1 <;> omega
end
end BW
namespace DL
open PySem L2
open PySem.W (Frag)
theorem RlA.bls_v {K : Frag} {A : Hp} : ∀ {bs : List Bool} {vs : List V}, RlA K A vs (bs.map D.bl) → vs = bs.map V.bl
  | [], _, .nil => rfl
  | b :: r, _, .cons h q => by
    cases h
    rw [RlA.bls_v q]
    rfl
abbrev dAll (t : DE) : DE := fun s Q => t s fun d k => ∃ bs : List Bool, d = .lst (bs.map .bl) ∧ Q (.bl (bs.all id)) k
section
variable {X : Cx} {c : C} {p pos : Pos}
theorem pd_all (hK : c.K = X.K) (hm : X.mg "all" = none) (hc : X.calm = true) {e : Expr} {t : DE} (h : PE X e (LE c t)) (hg : Gl X "all" := by rfl) (hs : starEach [e] X.env = (false, eval e X.env) :: starEach [] X.env := by rfl) (hp : (backTo pos (starEach [] X.env)).any (·.1) = false := by rfl) :
    PE X (.Call (.Name "all" p) [e] [] pos) (LE c (dAll t)) :=
  (pe_callB (cr_all hc) hg hm (by first | exact PySem.boot_all | exact PyProof.Rows.boot_all | rfl) (pa_cons h pa_nil hs) (he := hs) (hpl := hp)).weak fun σ H Q ⟨s, R, rp, q, f⟩ => ⟨s, _, rp, q, fun d k ⟨bs, h1, h2⟩ v H1 r1 a1 e1 => by
    subst h1
    obtain ⟨a, vs, rfl, h, r⟩ := e1.lstE
    obtain rfl := r.bls_v
    exact ⟨a, bs, rfl, hK ▸ SqL.of (wo_sub _ _ _ _ h), f _ k h2 _ H1 r1 a1 (.bl _)⟩⟩
end
end DL
namespace BW
open PySem L2 DL
def sp_is_row (BC : Addr) : DSp := fun ds k R => ∃ T r, ds = [bnd BC T, tI r] ∧ Tab T ∧ r.length = T.length ∧ R (.bl true) k
abbrev t_is_row (BC : Addr) : DS := (dSeq (dIfS (dOr (dNot (dTru (dIsi "tuple" (dVar 1)))) (dTB (dOp oNe (dLenN 1) (dLenO BC (sp_len_Bonds BC) (dVar 0))))) (dRet (dC (.bl false))) dNext)
  (dRet (dAll (dFr (dLc (iTp (dVar 1)) (dgN 2) dY (dCall sp_is_whole (dCons (dVar 2) dNil)) [2])))))
theorem alt_succ (a b : Int) (n : Nat) : alt a b (n + 1) = a :: alt b a n := by
  unfold alt
  rw [List.range_succ_eq_map, List.map_cons, List.map_map]
  congr 1
  refine List.map_congr_left fun i _ => ?_
  show (if (i + 1) % 2 = 0 then a else b) = if i % 2 = 0 then b else a
  by_cases h : i % 2 = 0
  · rw [if_pos h, if_neg (by omega)]
  · rw [if_neg h, if_pos (by omega)]
theorem alt_ix (i j : Nat) : ∀ n, (alt ((i : Int) + 1) ((j : Int) + 1) n).map ix = alN i j n
  | 0 => rfl
  | n + 1 => by
    rw [alt_succ, List.map_cons, alt_ix j i n]
    show ix ((i : Int) + 1) :: _ = i :: _
    rw [ix_succ]
theorem alt_wd {n : Nat} {a b : Int} (ha : 1 ≤ a ∧ a ≤ n) (hb : 1 ≤ b ∧ b ≤ n) (m : Nat) : Wd n (alt a b m) := fun z hz => by
  unfold alt at hz
  obtain ⟨i, _, rfl⟩ := List.mem_map.mp hz
  split
  · exact ha
  · exact hb
theorem alt_len (a b : Int) (n : Nat) : (alt a b n).length = n := by unfold alt; rw [List.length_map, List.length_range]
theorem pl_alt {T : Mat} (ht : Tab T) {r : List Int} (hr : r.length = T.length) {i j : Nat} (hi : i < T.length) (hj : j < T.length) (ne : i ≠ j) (h : 0 < at2 T i j) :
    pl T r (alt ((i : Int) + 1) ((j : Int) + 1) (at2 T i j).toNat) = pl T r (alt ((j : Int) + 1) ((i : Int) + 1) (at2 T i j).toNat) := by
  refine ext_getD (by rw [pl_len hr, pl_len hr]) fun c hc => ?_
  rw [pl_len hr] at hc
  have a1 : Wd T.length (alt ((i : Int) + 1) ((j : Int) + 1) (at2 T i j).toNat) := alt_wd ⟨by omega, by omega⟩ ⟨by omega, by omega⟩ _
  have a2 : Wd T.length (alt ((j : Int) + 1) ((i : Int) + 1) (at2 T i j).toNat) := alt_wd ⟨by omega, by omega⟩ ⟨by omega, by omega⟩ _
  have hm : ((at2 T i j).toNat = 2 ∧ wt T i j = 0 ∧ wt T j i = 0) ∨ ((at2 T i j).toNat = 3 ∧ wt T i j = 1 ∧ wt T j i = 1) ∨ ((at2 T i j).toNat = 4 ∧ wt T i j = 1 ∧ wt T j i = 2) ∨ ((at2 T i j).toNat = 4 ∧ wt T i j = 2 ∧ wt T j i = 1) ∨ ((at2 T i j).toNat = 6 ∧ wt T i j = 1 ∧ wt T j i = 3) ∨ ((at2 T i j).toNat = 6 ∧ wt T i j = 3 ∧ wt T j i = 1) := by
    rcases wt_two ht hi hj ne with ⟨e, u, v⟩ | ⟨e, u, v⟩ | ⟨e, u, v⟩ | ⟨e, u, v⟩ | ⟨e, u, v⟩ | ⟨e, u, v⟩ | ⟨e, u, v⟩
    · exact .inl ⟨by rw [e]; rfl, u, v⟩
    · exact .inr (.inl ⟨by rw [e]; rfl, u, v⟩)
    · exact .inr (.inr (.inl ⟨by rw [e]; rfl, u, v⟩))
    · exact .inr (.inr (.inr (.inl ⟨by rw [e]; rfl, u, v⟩)))
    · exact .inr (.inr (.inr (.inr (.inl ⟨by rw [e]; rfl, u, v⟩))))
    · exact .inr (.inr (.inr (.inr (.inr ⟨by rw [e]; rfl, u, v⟩))))
    · rw [e] at h; exact absurd h (by decide)
  rw [← pg_eb hc, ← pg_eb hc, pg_pl a1, pg_pl a2, alt_ix, alt_ix, braid (car_of ht) hi hj ne hm]
end BW
namespace BW
open PySem L2 DL
theorem step2 {T : Mat} (ht : Tab T) {w : List Int} (hw : Wd T.length w) {k : Nat} (h : LN T w k) {i j : Nat} (hi : i < T.length) (hj : j < T.length) {x y u : Int} (ex : (row T w).getD i 0 = x) (ey : (row T w).getD j 0 = y) (eu : wt T i j = u) (nx : x < 0) :
    ∃ l, k = l + 1 ∧ LN T (w ++ [(i : Int) + 1]) l ∧ Wd T.length (w ++ [(i : Int) + 1]) ∧ (row T (w ++ [(i : Int) + 1])).getD i 0 = -x ∧ (row T (w ++ [(i : Int) + 1])).getD j 0 = y + u * x := by
  have em : (w ++ [(i : Int) + 1]).map ix = w.map ix ++ [i] := by rw [List.map_append, List.map_cons, List.map_nil, ix_succ]
  have hn : TT.hv T.length (wt T) (w.map ix) i < 0 := by rw [← row_hv hw hi, ex]; exact nx
  obtain ⟨l, e, hl⟩ := h.down (car_of ht) hi (lets_of hw) hn
  have e1 : wt T i i = -2 := by unfold wt; rw [if_pos rfl]
  refine ⟨l, e, ?_, wd_app hw (wd_one hi), ?_, ?_⟩
  · show TT.Ln T.length (wt T) ((w ++ [(i : Int) + 1]).map ix) l
    rw [em]
    exact hl
  · rw [row_snoc, ix_succ, press_get hi, ex, e1]
    omega
  · rw [row_snoc, ix_succ, press_get hj, ex, ey, eu]
theorem LN.one_of {T : Mat} (ht : Tab T) {w : List Int} (hw : Wd T.length w) (h : LN T w 0) {i : Nat} (hi : i < T.length) : (row T w).getD i 0 = 1 := by
  rw [row_hv hw hi]
  exact TT.Ln.zero h i hi
theorem no_free {T : Mat} (ht : Tab T) {i j : Nat} (hi : i < T.length) (hj : j < T.length) (eu : wt T i j = 2) (ev : wt T j i = 2) : ∀ (k : Nat) {w : List Int}, Wd T.length w → LN T w k → (row T w).getD i 0 + (row T w).getD j 0 < 0 → False
  | 0, w, hw, h, s => by rw [h.one_of ht hw hi, h.one_of ht hw hj] at s; omega
  | k + 1, w, hw, h, s => by
    by_cases c : (row T w).getD i 0 < 0
    · obtain ⟨l, e, h1, h2, h3, h4⟩ := step2 ht hw h hi hj rfl rfl eu c
      obtain rfl : k = l := by omega
      exact no_free ht hi hj eu ev k h2 h1 (by rw [h3, h4]; omega)
    · obtain ⟨l, e, h1, h2, h3, h4⟩ := step2 ht hw h hj hi rfl rfl ev (by omega : (row T w).getD j 0 < 0)
      obtain rfl : k = l := by omega
      exact no_free ht hi hj eu ev k h2 h1 (by rw [h3, h4]; omega)
inductive Dn (T : Mat) : Nat → Nat → Nat → List Int → Nat → Prop
  | zero {i j : Nat} {w : List Int} {k : Nat} : LN T w k → Dn T i j 0 w k
  | succ {i j m : Nat} {w : List Int} {k : Nat} : Dn T j i m (w ++ [(i : Int) + 1]) k → Dn T i j (m + 1) w (k + 1)
theorem Dn.end_ {T : Mat} : ∀ {m i j : Nat} {w : List Int} {k : Nat}, Dn T i j m w k → ∃ l, k = l + m ∧ LN T (w ++ alt ((i : Int) + 1) ((j : Int) + 1) m) l
  | 0, i, j, w, k, h => by
    cases h with
    | zero h => exact ⟨k, rfl, by rw [show alt ((i : Int) + 1) ((j : Int) + 1) 0 = [] from rfl, List.append_nil]; exact h⟩
  | m + 1, i, j, w, _, h => by
    cases h with
    | succ h =>
      obtain ⟨l, e, hl⟩ := h.end_
      refine ⟨l, by omega, ?_⟩
      rw [alt_succ, show w ++ ((i : Int) + 1) :: alt ((j : Int) + 1) ((i : Int) + 1) m = (w ++ [(i : Int) + 1]) ++ alt ((j : Int) + 1) ((i : Int) + 1) m by rw [List.append_assoc]; rfl]
      exact hl
theorem dn_two {T : Mat} (ht : Tab T) {w : List Int} (hw : Wd T.length w) {k : Nat} (h : LN T w k) {i j : Nat} (hi : i < T.length) (hj : j < T.length) (ne : i ≠ j) (ni : (row T w).getD i 0 < 0) (nj : (row T w).getD j 0 < 0) :
    0 < at2 T i j ∧ Dn T i j (at2 T i j).toNat w k := by
  generalize ex : (row T w).getD i 0 = x at ni
  generalize ey : (row T w).getD j 0 = y at nj
  rcases wt_two ht hi hj ne with ⟨e, u, v⟩ | ⟨e, u, v⟩ | ⟨e, u, v⟩ | ⟨e, u, v⟩ | ⟨e, u, v⟩ | ⟨e, u, v⟩ | ⟨e, u, v⟩
  · rw [e]
    refine ⟨by decide, ?_⟩
    obtain ⟨k1, rfl, h1, w1, x1, y1⟩ := step2 ht hw h hi hj ex ey u ni
    obtain ⟨k2, rfl, h2, w2, x2, y2⟩ := step2 ht w1 h1 hj hi y1 x1 v (by omega)
    exact .succ (.succ (.zero h2))
  · rw [e]
    refine ⟨by decide, ?_⟩
    obtain ⟨k1, rfl, h1, w1, x1, y1⟩ := step2 ht hw h hi hj ex ey u ni
    obtain ⟨k2, rfl, h2, w2, x2, y2⟩ := step2 ht w1 h1 hj hi y1 x1 v (by omega)
    obtain ⟨k3, rfl, h3, w3, x3, y3⟩ := step2 ht w2 h2 hi hj y2 x2 u (by omega)
    exact .succ (.succ (.succ (.zero h3)))
  · rw [e]
    refine ⟨by decide, ?_⟩
    obtain ⟨k1, rfl, h1, w1, x1, y1⟩ := step2 ht hw h hi hj ex ey u ni
    obtain ⟨k2, rfl, h2, w2, x2, y2⟩ := step2 ht w1 h1 hj hi y1 x1 v (by omega)
    obtain ⟨k3, rfl, h3, w3, x3, y3⟩ := step2 ht w2 h2 hi hj y2 x2 u (by omega)
    obtain ⟨k4, rfl, h4, w4, x4, y4⟩ := step2 ht w3 h3 hj hi y3 x3 v (by omega)
    exact .succ (.succ (.succ (.succ (.zero h4))))
  · rw [e]
    refine ⟨by decide, ?_⟩
    obtain ⟨k1, rfl, h1, w1, x1, y1⟩ := step2 ht hw h hi hj ex ey u ni
    obtain ⟨k2, rfl, h2, w2, x2, y2⟩ := step2 ht w1 h1 hj hi y1 x1 v (by omega)
    obtain ⟨k3, rfl, h3, w3, x3, y3⟩ := step2 ht w2 h2 hi hj y2 x2 u (by omega)
    obtain ⟨k4, rfl, h4, w4, x4, y4⟩ := step2 ht w3 h3 hj hi y3 x3 v (by omega)
    exact .succ (.succ (.succ (.succ (.zero h4))))
  · rw [e]
    refine ⟨by decide, ?_⟩
    obtain ⟨k1, rfl, h1, w1, x1, y1⟩ := step2 ht hw h hi hj ex ey u ni
    obtain ⟨k2, rfl, h2, w2, x2, y2⟩ := step2 ht w1 h1 hj hi y1 x1 v (by omega)
    obtain ⟨k3, rfl, h3, w3, x3, y3⟩ := step2 ht w2 h2 hi hj y2 x2 u (by omega)
    obtain ⟨k4, rfl, h4, w4, x4, y4⟩ := step2 ht w3 h3 hj hi y3 x3 v (by omega)
    obtain ⟨k5, rfl, h5, w5, x5, y5⟩ := step2 ht w4 h4 hi hj y4 x4 u (by omega)
    obtain ⟨k6, rfl, h6, w6, x6, y6⟩ := step2 ht w5 h5 hj hi y5 x5 v (by omega)
    exact .succ (.succ (.succ (.succ (.succ (.succ (.zero h6))))))
  · rw [e]
    refine ⟨by decide, ?_⟩
    obtain ⟨k1, rfl, h1, w1, x1, y1⟩ := step2 ht hw h hi hj ex ey u ni
    obtain ⟨k2, rfl, h2, w2, x2, y2⟩ := step2 ht w1 h1 hj hi y1 x1 v (by omega)
    obtain ⟨k3, rfl, h3, w3, x3, y3⟩ := step2 ht w2 h2 hi hj y2 x2 u (by omega)
    obtain ⟨k4, rfl, h4, w4, x4, y4⟩ := step2 ht w3 h3 hj hi y3 x3 v (by omega)
    obtain ⟨k5, rfl, h5, w5, x5, y5⟩ := step2 ht w4 h4 hi hj y4 x4 u (by omega)
    obtain ⟨k6, rfl, h6, w6, x6, y6⟩ := step2 ht w5 h5 hj hi y5 x5 v (by omega)
    exact .succ (.succ (.succ (.succ (.succ (.succ (.zero h6))))))
  · exact (no_free ht hi hj u v k hw h (by rw [ex, ey]; omega)).elim
theorem row_alt {T : Mat} (ht : Tab T) {w : List Int} (hw : Wd T.length w) {i j : Nat} (hi : i < T.length) (hj : j < T.length) (ne : i ≠ j) (h : 0 < at2 T i j) :
    row T (w ++ alt ((i : Int) + 1) ((j : Int) + 1) (at2 T i j).toNat) = row T (w ++ alt ((j : Int) + 1) ((i : Int) + 1) (at2 T i j).toNat) := by
  have q := pl_alt ht (r := row T w) (row_length T w) hi hj ne h
  unfold pl at q
  unfold row at q ⊢
  rw [List.foldl_append, List.foldl_append]
  exact q
end BW
namespace L2G
open PySem PySem.Spec PyProof.Rows L2
structure FnG (P : Program) (w : World) (K : PySem.W.Frag) (mg : Str → Option Value) (base : Heap) (k : Nat) (f : Addr) (fd : FuncData) (ps : List Str) (sp : Sp) : Prop where
  len : ∀ vs H Q E, sp vs H Q E → vs.length = ps.length
  run : ∀ (A : Around) (ou : List Env) (s : Shared) (H : Hp) (ar : Args) (us : List Value) (vs : List V) (Q : VK) (E : XK), Room k A → A.guards = some [] → Env0 P w K mg base A ou s H → BindsTo s fd ar (ps.zip us) → Vals vs us → sp vs H Q E →
    codeAny (model P w) A (.call (.ref f) ar) (CR CX0 ou P w H s Q E) s
section
variable {P : Program} {w : World} {K : PySem.W.Frag} {mg : Str → Option Value} {base : Heap}
theorem FnG.of {k : Nat} {f : Addr} {fd : FuncData} {ps : List Str} {sp : Sp} (F : FnOk P w K mg base CX0 k f fd ps sp) : FnG P w K mg base k f fd ps sp :=
  ⟨F.len, fun A ou s H ar us vs Q E r _ e b v h => F.run A ou s H ar us vs Q E r e b v h⟩
end
end L2G
namespace DL
open PySem L2 L2G
open PySem.W (Frag)
end DL
namespace L2G
open PySem PySem.Spec PyProof.Rows L2 HT
theorem back_pick (xs : Array Value) : ((List.range xs.size).filterMap fun (m : Nat) => xs[(((xs.size : Int) - 1) + (m : Int) * -1).toNat]?) = xs.toList.reverse := by
  have e : ∀ n, n ≤ xs.size → ((List.range n).filterMap fun (m : Nat) => xs[(((xs.size : Int) - 1) + (m : Int) * -1).toNat]?) = (xs.toList.reverse).take n := by
    intro n hn
    induction n with
    | zero => rfl
    | succ n ih =>
      have hlt : xs.size - 1 - n < xs.size := by omega
      have ei : (((xs.size : Int) - 1) + (n : Int) * -1).toNat = xs.size - 1 - n := by omega
      have lt : n < xs.toList.reverse.length := by rw [List.length_reverse, Array.length_toList]; omega
      rw [List.range_succ, List.filterMap_append, ih (by omega), List.take_succ_eq_append_getElem lt]
      congr 1
      rw [List.filterMap_cons, ei, List.getElem_reverse]
      rw [Array.getElem?_eq_getElem hlt]
      rfl
  rw [e _ (Nat.le_refl _)]
  exact List.take_of_length_le (by rw [List.length_reverse, Array.length_toList]; exact Nat.le_refl _)
section
variable {prog : Program} {w : World} {A : Around} {E : Value → Shared → Prop} {s : Shared}
theorem applied_back {sl : Addr} {vl vu vs : Value} {n : Nat} {Q : Int × Int × Nat → Shared → Prop} (hs : s.heap.IsSliceOf sl vl vu vs) (pl : IsPart vl none) (pu : IsPart vu none) (ps : IsPart vs (some (-1)))
    (h : Q ((n : Int) - 1, -1, n) s) : wpAny (model prog w) A (Builtin.Slice.sliceApplied (.ref sl) (pure (n : Int))) Q E s := by
  obtain ⟨o, ho, _, hd⟩ := id hs
  unfold Builtin.Slice.sliceApplied Builtin.Slice.sliceFields
  refine wpAny_bind (wpAny_bind (wpAny_field ho hd (x := vl) rfl (wpAny_bind (wpAny_field ho hd (x := vu) rfl (wpAny_bind (wpAny_field ho hd (x := vs) rfl (wpAny_pure ?_)))))))
  refine wpAny_bind (slicePart_ ps ?_)
  show wpAny _ _ (if ((-1 : Int) == 0) = true then _ else _) _ _ s
  rw [if_neg (by decide)]
  refine wpAny_bind (slicePart_ pl (wpAny_bind (slicePart_ pu (wpAny_bind (wpAny_pure ?_)))))
  have e1 : Builtin.Slice.sliceAdjust none none (-1) (n : Int) = ((n : Int) - 1, -1) := by
    unfold Builtin.Slice.sliceAdjust
    simp
  have e2 : Builtin.Slice.slicePlaces ((n : Int) - 1) (-1) (-1) = n := by
    unfold Builtin.Slice.slicePlaces
    simp
    split <;> omega
  show wpAny _ _ (match Builtin.Slice.sliceAdjust none none (-1) (n : Int) with | (a, b) => pure (a, (-1 : Int), Builtin.Slice.slicePlaces a b (-1))) _ _ s
  rw [e1]
  show wpAny _ _ (pure ((n : Int) - 1, (-1 : Int), Builtin.Slice.slicePlaces ((n : Int) - 1) (-1) (-1))) _ _ s
  rw [e2]
  exact wpAny_pure h
theorem tuple_back {t sl : Addr} {its : Array Value} {vl vu vs : Value} {Q : Value → Shared → Prop} (ht : IsTup s.heap t its) (hs : s.heap.IsSliceOf sl vl vu vs) (pl : IsPart vl none) (pu : IsPart vu none) (ps : IsPart vs (some (-1)))
    (h : Q (.ref s.heap.objs.size) { s with heap := s.heap.push { cls := .type "tuple", data := .seq its.toList.reverse.toArray } }) (hz : its.size ≤ sizeLine) : wpAny (model prog w) A (getItem (.ref t) (.ref sl)) Q E s := by
  have okz : sizeOk (.seq its.toList.reverse.toArray) := by
    show its.toList.reverse.toArray.size ≤ sizeLine
    rw [List.size_toArray, List.length_reverse, Array.length_toList]
    exact hz
  obtain ⟨o, ho, hc, _⟩ := id hs
  have isS : s.TypeIs (.ref sl) "slice" := ⟨o, ho, hc⟩
  unfold getItem
  try with_reducible refine wpAny_holding ?_
  first | refine wpAny_bind (wpAny_pure ?_) | skip
  refine wpAny_bind (wpAny_sequenceKey ht.typeIs (by decide) ?_)
  refine wpAny_bind (wpAny_callSpecial?_slot (name := Str.ofString "__getitem__") ht.typeIs PyProof.Rows.slot_tuple_getitem (wpAny_call_entry PyProof.Rows.slot_tuple_getitem ht.typeIs entry_tuple_getitem ?_ (args_tuple_getitem _ _)))
  show wpAny _ _ (Builtin.Tuple.tupleItemsOf (.ref t) >>= _) _ _ s
  refine wpAny_bind (tupleItemsOf_ ht (wpAny_bind (wpAny_typeOf isS ?_)))
  rw [if_pos (by decide)]
  refine wpAny_bind (applied_back hs pl pu ps ?_)
  have no : ¬ ((((its.size : Int) - 1) == 0 && (-1 : Int) == 1 && its.size == its.size) = true) := by simp
  show wpAny _ _ (if (((its.size : Int) - 1) == 0 && (-1 : Int) == 1 && its.size == its.size) = true then _ else _) _ _ s
  rw [if_neg no, back_pick]
  first
    | exact wpAny_bind (m := Builtin.Tuple.tupleExact _) (wpAny_newObj_type (wpAny_pure ⟨_, rfl, wpAny_pure h⟩) okz)
    | exact wpAny_bind (wpAny_bind (m := Builtin.Tuple.tupleExact _) (wpAny_newObj_type (wpAny_pure (wpAny_pure ⟨_, rfl, wpAny_pure h⟩)) okz))
    | exact wpAny_bind (wpAny_bind (m := Builtin.Tuple.tupleExact _) (wpAny_newObj_type (wpAny_pure ⟨_, rfl, wpAny_pure h⟩) okz))
end
section
variable {X : Cx}
abbrev tRevS (K : PySem.W.Frag) (te : TE) : TE := fun σ H Q => te σ H fun x H1 => ∃ a xs, x = .ref a ∧ ((SqL K H1 a xs ∧ ∀ p, H1 p = none → Q (.ref p) (upd H1 p (.lst xs.reverse))) ∨ (SqT K H1 a xs ∧ ∀ p, H1 p = none → Q (.ref p) (upd H1 p (.tup xs.reverse))))
theorem pe_revS {e : Expr} {te : TE} {k : Nat} {p1 p2 p3 pos : Pos} (he : PE X e te) : PE X (.Subscript e (.Slice none none (some (.UnaryOp .USub (.Constant (.int 1) k p1) p2)) p3) pos) (tRevS X.K te) := by
  refine ⟨fun pins s σ H Q I h => Subscript_ (thn (he.run pins s σ H _ I h) fun v s1 ⟨x, H1, I1, r1, a, xs, ex, hx⟩ => ?_)⟩
  subst ex
  obtain rfl : v = Value.ref a := r1
  have step : PO X (some (.UnaryOp .USub (.Constant (.int 1) k p1) p2)) (tPart (tUn (rU fun i => .int (-i)) (tC (.int 1)))) := po_some (pe_un un_neg pe_int)
  refine wpAny_Slice (thn (po_none.run pins s1 σ H1 (fun o G => o = none ∧ G = H1) I1 ⟨rfl, rfl⟩) fun vl s2 ⟨o1, G1, J1, pl, z1, z2⟩ => ?_)
  subst z1 z2
  refine thn (po_none.run pins s2 σ G1 (fun o G => o = none ∧ G = G1) J1 ⟨rfl, rfl⟩) fun vu s3 ⟨o2, G2, J2, pu, z1, z2⟩ => ?_
  subst z1 z2
  refine thn (step.run pins s3 σ G2 (fun o G => o = some (-1) ∧ G = G2) J2 ⟨1, rfl, -1, rfl, rfl, rfl⟩) fun vs s4 ⟨o3, G3, J3, ps, z1, z2⟩ => ?_
  subst z1 z2
  have J : Inv X pins σ G3 { s4 with heap := s4.heap.push { cls := .type "slice", data := .fields #[vl, vu, vs] } } := J3.kept (t' := s4.toks) fun b ob q => Heap.get?_push_of_some _ q
  show wpAny (model X.prog X.w) X.A (subscriptTail e (.Slice none none (some (.UnaryOp .USub (.Constant (.int 1) k p1) p2)) p3) (.ref a) (.ref s4.heap.objs.size)) (EP X pins σ Q) X.xe { s4 with heap := s4.heap.push { cls := .type "slice", data := .fields #[vl, vu, vs] } }
  rcases hx with ⟨hx, q⟩ | ⟨hx, q⟩
  · obtain ⟨its, r, pt, hz⟩ := J.list hx
    have ln := r.length
    refine tail_any (ops := [.ref a, .ref s4.heap.objs.size]) pt.isList.typeIs (PySem.slot_list_getitem.lookup) ?_ (by with_unfolding_all rfl)
    refine wpAny_getItem_list_slice pt.isList (Heap.IsSliceOf.new _ vl vu vs) pl pu ps (by decide) ?_ (by rw [List.size_toArray]; omega)
    rw [PySem.W.krv_pick]
    exact ⟨.ref _, _, J.laid (t' := s4.toks) (o := .lst xs.reverse) (fun b ob q => Heap.get?_push_of_some _ q) (Nat.le_refl _) ⟨by rw [List.length_reverse]; exact hz, _, 0, r.reverse, Heap.get?_push_size _ rfl⟩, rfl, q _ (J.hok.fresh (Nat.le_refl _))⟩
  · obtain ⟨its, r, pt, hz⟩ := J.tuple hx
    have ln := r.length
    refine tail_any (ops := [.ref a, .ref s4.heap.objs.size]) pt.typeIs (PyProof.Rows.slot_tuple_getitem.lookup) ?_ (by with_unfolding_all rfl)
    refine tuple_back pt (Heap.IsSliceOf.new _ vl vu vs) pl pu ps ?_ (by rw [List.size_toArray]; omega)
    exact ⟨.ref _, _, J.laid (t' := s4.toks) (o := .tup xs.reverse) (fun b ob q => Heap.get?_push_of_some _ q) (Nat.le_refl _) ⟨by rw [List.length_reverse]; exact hz, _, r.reverse, IsTup.new _ _⟩, rfl, q _ (J.hok.fresh (Nat.le_refl _))⟩
end
end L2G
namespace DL
open PySem L2 L2G
open PySem.W (Frag)
abbrev dRev (t : DE) : DE := fun s Q => t s fun d k => match d with | .lst ds => Q (.lst ds.reverse) k | .tup ds => Q (.tup ds.reverse) k | _ => False
section
variable {X : Cx} {c : C}
theorem pd_rev (hK : c.K = X.K) {e : Expr} {t : DE} {k : Nat} {p1 p2 p3 pos : Pos} (he : PE X e (LE c t)) : PE X (.Subscript e (.Slice none none (some (.UnaryOp .USub (.Constant (.int 1) k p1) p2)) p3) pos) (LE c (dRev t)) :=
  (pe_revS he).weak fun σ H Q ⟨s, R, rp, q, f⟩ => ⟨s, _, rp, q, fun d k h1 v H1 r1 a1 e1 => by
    cases d with
    | lst ds =>
      obtain ⟨a, vs, rfl, h, r⟩ := e1.lstE
      refine ⟨a, vs, rfl, .inl ⟨hK ▸ SqL.of (wo_sub _ _ _ _ h), fun p hp => ?_⟩⟩
      have n := r1.new (o := .lst vs.reverse) hp
      exact f _ _ h1 _ _ n.1 (a1.trans n.2) (.lst (r1.at_new hp) (RlA.rev (r.mono n.2.sub)))
    | tup ds =>
      obtain ⟨a, vs, rfl, h, r⟩ := e1.tupE
      refine ⟨a, vs, rfl, .inr ⟨hK ▸ (wo_sub _ _).st h, fun p hp => ?_⟩⟩
      have n := r1.new (o := .tup vs.reverse) hp
      exact f _ _ h1 _ _ n.1 (a1.trans n.2) (.tup (SqT.of (r1.at_new hp)) (RlA.rev (r.mono n.2.sub)))
    | _ => exact h1.elim⟩
end
end DL
namespace BW
open PySem L2 DL
def sp_lasts (BC : Addr) : DSp := fun ds k R => ∃ T d w, ds = [bnd BC T, d] ∧ Tab T ∧ isW d w ∧ w.length ≤ 60 ∧ Wd T.length w ∧ R (tI (fall (row T w))) k
abbrev t_lasts (BC : Addr) : DS := (dRet (dCall sp_fallen (dCons (dCall (sp_row_of BC) (dCons (dVar 0) (dCons (dVar 1) dNil))) dNil)))
theorem wd_rev {n : Nat} {w : List Int} (h : Wd n w) : Wd n w.reverse := fun a ha => h a (List.mem_reverse.mp ha)
theorem LN.rev {T : Mat} (ht : Tab T) {w : List Int} (hw : Wd T.length w) {k : Nat} (h : LN T w k) : LN T w.reverse k := by
  have := TT.Ln.rev (car_of ht) (lets_of hw) h
  rw [← List.map_reverse] at this
  exact this
theorem mem_fall {r : List Int} {i : Nat} (hi : i < r.length) : ((i : Int) + 1) ∈ fall r ↔ r.getD i 0 < 0 := by
  unfold fall
  rw [List.mem_map]
  constructor
  · rintro ⟨j, hj, e⟩
    obtain ⟨_, h2⟩ := List.mem_filter.mp hj
    have : j = i := by omega
    rw [← this]
    exact of_decide_eq_true h2
  · intro h
    exact ⟨i, List.mem_filter.mpr ⟨List.mem_range.mpr hi, decide_eq_true h⟩, rfl⟩
theorem LN.more {T : Mat} (ht : Tab T) {w : List Int} (hw : Wd T.length w) {k : Nat} (h : LN T w k) {i : Nat} (hi : i < T.length) :
    if ((i : Int) + 1) ∈ fall (row T w) then 1 ≤ k ∧ LN T (w ++ [(i : Int) + 1]) (k - 1) else LN T (w ++ [(i : Int) + 1]) (k + 1) := by
  have em : (w ++ [(i : Int) + 1]).map ix = w.map ix ++ [i] := by rw [List.map_append, List.map_cons, List.map_nil, ix_succ]
  have hr : i < (row T w).length := by rw [row_length]; exact hi
  by_cases c : ((i : Int) + 1) ∈ fall (row T w)
  · rw [if_pos c]
    obtain ⟨j, e, hj, _, _⟩ := h.step ht hw c
    exact ⟨by omega, by rw [e]; exact hj⟩
  · rw [if_neg c]
    have nz := row_nz ht hw hi
    have np : 0 < TT.hv T.length (wt T) (w.map ix) i := by
      rw [← row_hv hw hi]
      have := (not_congr (mem_fall hr)).mp c
      omega
    show TT.Ln T.length (wt T) ((w ++ [(i : Int) + 1]).map ix) (k + 1)
    rw [em]
    exact TT.Ln.up (car_of ht) hi (lets_of hw) h np
theorem LN.ahead {T : Mat} (ht : Tab T) {w : List Int} (hw : Wd T.length w) {k : Nat} (h : LN T w k) {i : Nat} (hi : i < T.length) :
    if ((i : Int) + 1) ∈ fall (row T w.reverse) then 1 ≤ k ∧ LN T (((i : Int) + 1) :: w) (k - 1) else LN T (((i : Int) + 1) :: w) (k + 1) := by
  have m := LN.more ht (wd_rev hw) (h.rev ht hw) hi
  have wr : Wd T.length (w.reverse ++ [(i : Int) + 1]) := wd_app (wd_rev hw) (wd_one hi)
  have er : (w.reverse ++ [(i : Int) + 1]).reverse = ((i : Int) + 1) :: w := by rw [List.reverse_append, List.reverse_reverse]; rfl
  by_cases c : ((i : Int) + 1) ∈ fall (row T w.reverse)
  · rw [if_pos c] at m ⊢
    have := LN.rev ht wr m.2
    rw [er] at this
    exact ⟨m.1, this⟩
  · rw [if_neg c] at m ⊢
    have := LN.rev ht wr m
    rw [er] at this
    exact this
theorem len60 {T : Mat} (ht : Tab T) {w : List Int} (hw : Wd T.length w) {k : Nat} (h : LN T w k) (hk : k ≤ 60) : (wd T 60 (row T w)).1.length = k := (wd_len ht k hw h hk).1
theorem inV_mem {a : Int} : ∀ {ns : List Int}, inV (D.int a).v ((ns.map D.int).map D.v) = decide (a ∈ ns)
  | [] => rfl
  | b :: r => by
    have ih := inV_mem (a := a) (ns := r)
    unfold inV at ih ⊢
    rw [List.map_cons, List.map_cons, List.any_cons, ih]
    show ((b == a) || _) = _
    by_cases e : a = b
    · subst e; simp
    · have : (b == a) = false := by simpa using fun z => e z.symm
      rw [this]
      simp [e]
theorem flat_ints : ∀ ns : List Int, (ns.map D.int).all D.flat = true
  | [] => rfl
  | _ :: r => flat_ints r
end BW
namespace BW
open PySem L2 DL
def Tn1 (T : Mat) (u v : List Int) : Prop := ∃ (p s : List Int) (i j : Nat), i < T.length ∧ j < T.length ∧ i ≠ j ∧ 0 < at2 T i j ∧ u = p ++ alt ((i : Int) + 1) ((j : Int) + 1) (at2 T i j).toNat ++ s ∧ v = p ++ alt ((j : Int) + 1) ((i : Int) + 1) (at2 T i j).toNat ++ s
inductive Tn (T : Mat) : List Int → List Int → Prop
  | refl {u : List Int} : Tn T u u
  | step {u v w : List Int} : Tn1 T u v → Tn T v w → Tn T u w
theorem Tn.trans {T : Mat} {u v w : List Int} (h : Tn T u v) (g : Tn T v w) : Tn T u w := by
  induction h with
  | refl => exact g
  | step a _ ih => exact .step a (ih g)
theorem Tn1.symm {T : Mat} (ht : Tab T) {u v : List Int} (h : Tn1 T u v) : Tn1 T v u := by
  obtain ⟨p, s, i, j, hi, hj, ne, b, e1, e2⟩ := h
  have sy := ht.sy i j hi hj
  exact ⟨p, s, j, i, hj, hi, fun z => ne z.symm, by rw [← sy]; exact b, by rw [← sy]; exact e2, by rw [← sy]; exact e1⟩
theorem Tn.symm {T : Mat} (ht : Tab T) {u v : List Int} (h : Tn T u v) : Tn T v u := by
  induction h with
  | refl => exact .refl
  | step a _ ih => exact ih.trans (.step (a.symm ht) .refl)
theorem Tn1.app {T : Mat} {u v : List Int} (h : Tn1 T u v) (z : List Int) : Tn1 T (u ++ z) (v ++ z) := by
  obtain ⟨p, s, i, j, hi, hj, ne, b, e1, e2⟩ := h
  exact ⟨p, s ++ z, i, j, hi, hj, ne, b, by rw [e1, List.append_assoc], by rw [e2, List.append_assoc]⟩
theorem Tn.app {T : Mat} {u v : List Int} (h : Tn T u v) (z : List Int) : Tn T (u ++ z) (v ++ z) := by
  induction h with
  | refl => exact .refl
  | step a _ ih => exact .step (a.app z) ih
theorem alt_rev {T : Mat} (ht : Tab T) {i j : Nat} (hi : i < T.length) (hj : j < T.length) (ne : i ≠ j) (h : 0 < at2 T i j) :
    ((alt ((i : Int) + 1) ((j : Int) + 1) (at2 T i j).toNat).reverse = alt ((i : Int) + 1) ((j : Int) + 1) (at2 T i j).toNat ∧ (alt ((j : Int) + 1) ((i : Int) + 1) (at2 T i j).toNat).reverse = alt ((j : Int) + 1) ((i : Int) + 1) (at2 T i j).toNat) ∨
    ((alt ((i : Int) + 1) ((j : Int) + 1) (at2 T i j).toNat).reverse = alt ((j : Int) + 1) ((i : Int) + 1) (at2 T i j).toNat ∧ (alt ((j : Int) + 1) ((i : Int) + 1) (at2 T i j).toNat).reverse = alt ((i : Int) + 1) ((j : Int) + 1) (at2 T i j).toNat) := by
  rcases ht.of i j hi hj ne with e | e | e | e | e
  · rw [e]; exact .inr ⟨rfl, rfl⟩
  · rw [e]; exact .inl ⟨rfl, rfl⟩
  · rw [e]; exact .inr ⟨rfl, rfl⟩
  · rw [e]; exact .inr ⟨rfl, rfl⟩
  · rw [e] at h; exact absurd h (by decide)
theorem turn_rev {T : Mat} (ht : Tab T) {i j : Nat} (hi : i < T.length) (hj : j < T.length) (ne : i ≠ j) (h : 0 < at2 T i j) (z : List Int) :
    Tn1 T (z ++ (alt ((i : Int) + 1) ((j : Int) + 1) (at2 T i j).toNat).reverse) (z ++ (alt ((j : Int) + 1) ((i : Int) + 1) (at2 T i j).toNat).reverse) := by
  rcases alt_rev ht hi hj ne h with ⟨a, b⟩ | ⟨a, b⟩
  · rw [a, b]
    exact ⟨z, [], i, j, hi, hj, ne, h, by rw [List.append_nil], by rw [List.append_nil]⟩
  · rw [a, b]
    exact Tn1.symm ht ⟨z, [], i, j, hi, hj, ne, h, by rw [List.append_nil], by rw [List.append_nil]⟩
theorem LN.cong {T : Mat} {u v : List Int} (hu : Wd T.length u) (hv : Wd T.length v) {k : Nat} (h : LN T u k) (e : row T u = row T v) : LN T v k := TT.Ln.cong h ((row_eq_iff hu hv).mp e)
theorem LN.uniq {T : Mat} {u : List Int} {j k : Nat} (a : LN T u j) (b : LN T u k) : j = k := TT.Ln.uniq a b
abbrev Sh (T : Mat) (w : List Int) : Prop := LN T w w.length
theorem row_app {T : Mat} {u v z : List Int} (e : row T u = row T v) : row T (u ++ z) = row T (v ++ z) := by
  unfold row at e ⊢
  rw [List.foldl_append, List.foldl_append, e]
theorem row_undo {T : Mat} (ht : Tab T) {w : List Int} {i : Nat} (hi : i < T.length) : row T (w ++ [(i : Int) + 1] ++ [(i : Int) + 1]) = row T w := by
  have e1 : wt T i i = -2 := by unfold wt; rw [if_pos rfl]
  refine ext_getD (by rw [row_length, row_length]) fun c hc => ?_
  rw [row_length] at hc
  rw [row_snoc, row_snoc, ix_succ, press_get hc, press_get hc, press_get hi, e1]
  rw [show (row T w).getD i 0 + -2 * (row T w).getD i 0 = -((row T w).getD i 0) by omega, Int.mul_neg]
  omega
theorem row_cancel {T : Mat} (ht : Tab T) {u v : List Int} {i : Nat} (hi : i < T.length) (e : row T (u ++ [(i : Int) + 1]) = row T (v ++ [(i : Int) + 1])) : row T u = row T v := by
  have := row_app (z := [(i : Int) + 1]) e
  rw [row_undo ht hi, row_undo ht hi] at this
  exact this
theorem Sh.last {T : Mat} (ht : Tab T) {w : List Int} {i : Nat} (hi : i < T.length) (hw : Wd T.length w) (h : Sh T (w ++ [(i : Int) + 1])) : (row T (w ++ [(i : Int) + 1])).getD i 0 < 0 ∧ Sh T w := by
  obtain ⟨k, hk, hl⟩ := LN.has hw
  have m := LN.more ht hw hk hi
  have el : (w ++ [(i : Int) + 1]).length = w.length + 1 := by rw [List.length_append]; rfl
  have e1 : wt T i i = -2 := by unfold wt; rw [if_pos rfl]
  by_cases c : ((i : Int) + 1) ∈ fall (row T w)
  · rw [if_pos c] at m
    have := h.uniq m.2
    omega
  · rw [if_neg c] at m
    have := h.uniq m
    have ek : k = w.length := by omega
    have nz := row_nz ht hw hi
    have nn := (not_congr (mem_fall (r := row T w) (i := i) (by rw [row_length]; exact hi))).mp c
    refine ⟨?_, by rw [ek] at hk; exact hk⟩
    rw [row_snoc, ix_succ, press_get hi, e1]
    omega
theorem snoc_cases {T : Mat} {w : List Int} (hw : Wd T.length w) : w = [] ∨ ∃ (v : List Int) (i : Nat), i < T.length ∧ Wd T.length v ∧ w = v ++ [(i : Int) + 1] := by
  rcases List.eq_nil_or_concat w with e | ⟨v, a, e⟩
  · exact .inl e
  · rw [List.concat_eq_append] at e
    subst e
    have ha := hw a (by simp)
    refine .inr ⟨v, (a - 1).toNat, by omega, fun z hz => hw z (by simp [hz]), ?_⟩
    rw [show ((a - 1).toNat : Int) + 1 = a by omega]
theorem alt_pos {T : Mat} (ht : Tab T) {i j : Nat} (hi : i < T.length) (hj : j < T.length) (ne : i ≠ j) (h : 0 < at2 T i j) : ∃ m, (at2 T i j).toNat = m + 1 := ⟨(at2 T i j).toNat - 1, by omega⟩
theorem row_back {T : Mat} (ht : Tab T) : ∀ {l : List Int} {u z : List Int}, Wd T.length l → row T z = row T (u ++ l) → row T (z ++ l.reverse) = row T u
  | [], u, z, _, e => by
    rw [List.append_nil] at e
    rw [List.reverse_nil, List.append_nil]
    exact e
  | a :: l, u, z, hl, e => by
    have ha := hl a List.mem_cons_self
    obtain ⟨i, rfl⟩ : ∃ i : Nat, a = (i : Int) + 1 := ⟨(a - 1).toNat, by omega⟩
    have e2 : row T z = row T ((u ++ [(i : Int) + 1]) ++ l) := by rw [e, List.append_assoc]; rfl
    have ih := row_back ht (fun b hb => hl b (List.mem_cons_of_mem _ hb)) e2
    rw [List.reverse_cons, ← List.append_assoc]
    have := row_app (z := [(i : Int) + 1]) ih
    rw [row_undo ht (by omega)] at this
    exact this
theorem matsumoto {T : Mat} (ht : Tab T) : ∀ (k : Nat) {u v : List Int}, u.length = k → Wd T.length u → Wd T.length v → Sh T u → Sh T v → row T u = row T v → Tn T u v
  | 0, u, v, hk, wu, wv, su, sv, e => by
    obtain rfl : u = [] := List.eq_nil_of_length_eq_zero hk
    have := (su.cong wu wv e).uniq sv
    have hv : v.length = 0 := this.symm
    obtain rfl : v = [] := List.eq_nil_of_length_eq_zero hv
    exact .refl
  | k + 1, u, v, hk, wu, wv, su, sv, e => by
    have lv : v.length = k + 1 := by have := (su.cong wu wv e).uniq sv; omega
    -- words that end alike
    have same : ∀ {u v : List Int} {i : Nat}, i < T.length → Wd T.length u → Wd T.length v → u.length = k → Sh T (u ++ [(i : Int) + 1]) → Sh T (v ++ [(i : Int) + 1]) → row T (u ++ [(i : Int) + 1]) = row T (v ++ [(i : Int) + 1]) → Tn T (u ++ [(i : Int) + 1]) (v ++ [(i : Int) + 1]) := fun hi wu wv hk su sv e =>
      (matsumoto ht k hk wu wv (su.last ht hi wu).2 (sv.last ht hi wv).2 (row_cancel ht hi e)).app _
    rcases snoc_cases wu with rfl | ⟨u', i, hi, wu', rfl⟩
    · cases hk
    rcases snoc_cases wv with rfl | ⟨v', j, hj, wv', rfl⟩
    · cases lv
    have lu' : u'.length = k := by rw [List.length_append] at hk; simp at hk; exact hk
    have lv' : v'.length = k := by rw [List.length_append] at lv; simp at lv; exact lv
    by_cases c : i = j
    · subst c
      exact same hi wu' wv' lu' su sv e
    · have ni := (su.last ht hi wu').1
      have nj := (sv.last ht hj wv').1
      rw [← e] at nj
      obtain ⟨b, dn⟩ := dn_two ht wu su hi hj c ni nj
      obtain ⟨l, el, hl⟩ := dn.end_
      obtain ⟨m, em⟩ := alt_pos ht hi hj c b
      have wa : Wd T.length (alt ((i : Int) + 1) ((j : Int) + 1) (at2 T i j).toNat) := alt_wd ⟨by omega, by omega⟩ ⟨by omega, by omega⟩ _
      have wb : Wd T.length (alt ((j : Int) + 1) ((i : Int) + 1) (at2 T i j).toNat) := alt_wd ⟨by omega, by omega⟩ ⟨by omega, by omega⟩ _
      -- a shortest word of what is left
      obtain ⟨z0, lz0, ez0, rz0⟩ := hl.ex
      obtain ⟨z, wz, ez, rz⟩ : ∃ z, Wd T.length z ∧ z.length = l ∧ row T z = row T (u' ++ [(i : Int) + 1] ++ alt ((i : Int) + 1) ((j : Int) + 1) (at2 T i j).toNat) := by
        refine ⟨z0.map fun (a : Nat) => (a : Int) + 1, fun a ha => ?_, by rw [List.length_map]; exact ez0, ?_⟩
        · obtain ⟨q, hq, rfl⟩ := List.mem_map.mp ha
          have := lz0 q hq
          omega
        · have wz : Wd T.length (z0.map fun (a : Nat) => (a : Int) + 1) := fun a ha => by
            obtain ⟨q, hq, rfl⟩ := List.mem_map.mp ha
            have := lz0 q hq
            omega
          refine (row_eq_iff wz (wd_app wu wa)).mpr ?_
          rw [List.map_map, show (ix ∘ fun (a : Nat) => (a : Int) + 1) = id from funext ix_succ, List.map_id]
          exact rz0
      have rU : row T (z ++ (alt ((i : Int) + 1) ((j : Int) + 1) (at2 T i j).toNat).reverse) = row T (u' ++ [(i : Int) + 1]) := row_back ht wa rz
      have rV : row T (z ++ (alt ((j : Int) + 1) ((i : Int) + 1) (at2 T i j).toNat).reverse) = row T (u' ++ [(i : Int) + 1]) := row_back ht wb (by rw [rz]; exact row_alt ht wu hi hj c b)
      have wU := wd_app wz (wd_rev wa)
      have wV := wd_app wz (wd_rev wb)
      have lU : (z ++ (alt ((i : Int) + 1) ((j : Int) + 1) (at2 T i j).toNat).reverse).length = k + 1 := by rw [List.length_append, List.length_reverse, alt_len]; omega
      have lV : (z ++ (alt ((j : Int) + 1) ((i : Int) + 1) (at2 T i j).toNat).reverse).length = k + 1 := by rw [List.length_append, List.length_reverse, alt_len]; omega
      have sU : Sh T (z ++ (alt ((i : Int) + 1) ((j : Int) + 1) (at2 T i j).toNat).reverse) := by
        have := su.cong wu wU rU.symm
        rw [hk] at this
        show LN T _ _
        rw [lU]
        exact this
      have sV : Sh T (z ++ (alt ((j : Int) + 1) ((i : Int) + 1) (at2 T i j).toNat).reverse) := by
        have := su.cong wu wV rV.symm
        rw [hk] at this
        show LN T _ _
        rw [lV]
        exact this
      have turn := turn_rev ht hi hj c b z
      -- they end with i and with j
      have endU : (z ++ (alt ((i : Int) + 1) ((j : Int) + 1) (at2 T i j).toNat).reverse) = (z ++ (alt ((j : Int) + 1) ((i : Int) + 1) m).reverse) ++ [(i : Int) + 1] := by rw [em, alt_succ, List.reverse_cons, ← List.append_assoc]
      have endV : (z ++ (alt ((j : Int) + 1) ((i : Int) + 1) (at2 T i j).toNat).reverse) = (z ++ (alt ((i : Int) + 1) ((j : Int) + 1) m).reverse) ++ [(j : Int) + 1] := by rw [em, alt_succ, List.reverse_cons, ← List.append_assoc]
      have wU' : Wd T.length (z ++ (alt ((j : Int) + 1) ((i : Int) + 1) m).reverse) := wd_app wz (wd_rev (alt_wd ⟨by omega, by omega⟩ ⟨by omega, by omega⟩ _))
      have wV' : Wd T.length (z ++ (alt ((i : Int) + 1) ((j : Int) + 1) m).reverse) := wd_app wz (wd_rev (alt_wd ⟨by omega, by omega⟩ ⟨by omega, by omega⟩ _))
      have lU' : (z ++ (alt ((j : Int) + 1) ((i : Int) + 1) m).reverse).length = k := by rw [List.length_append, List.length_reverse, alt_len]; rw [em] at el; omega
      have lV' : (z ++ (alt ((i : Int) + 1) ((j : Int) + 1) m).reverse).length = k := by rw [List.length_append, List.length_reverse, alt_len]; rw [em] at el; omega
      rw [endU] at sU rU turn
      rw [endV] at sV rV turn
      have one : Tn T (u' ++ [(i : Int) + 1]) ((z ++ (alt ((j : Int) + 1) ((i : Int) + 1) m).reverse) ++ [(i : Int) + 1]) := same hi wu' wU' lu' su sU rU.symm
      have two : Tn T ((z ++ (alt ((i : Int) + 1) ((j : Int) + 1) m).reverse) ++ [(j : Int) + 1]) (v' ++ [(j : Int) + 1]) := same hj wV' wv' lV' sV sv (rV.trans e)
      exact one.trans (.step turn two)
end BW
namespace BW
open PySem L2 DL
def Ou1 (u v : List Int) : Prop := ∃ (p s : List Int) (a : Int), u = p ++ [a, a] ++ s ∧ v = p ++ s
inductive Led (T : Mat) : List Int → List Int → Prop
  | refl {u : List Int} : Led T u u
  | turn {u v w : List Int} : Tn1 T u v → Led T v w → Led T u w
  | out {u v w : List Int} : Ou1 u v → Led T v w → Led T u w
theorem Led.trans {T : Mat} {u v w : List Int} (h : Led T u v) (g : Led T v w) : Led T u w := by
  induction h with
  | refl => exact g
  | turn a _ ih => exact .turn a (ih g)
  | out a _ ih => exact .out a (ih g)
theorem Tn.led {T : Mat} {u v : List Int} (h : Tn T u v) : Led T u v := by
  induction h with
  | refl => exact .refl
  | step a _ ih => exact .turn a ih
theorem Led.app {T : Mat} {u v : List Int} (h : Led T u v) (z : List Int) : Led T (u ++ z) (v ++ z) := by
  induction h with
  | refl => exact .refl
  | turn a _ ih => exact .turn (a.app z) ih
  | out a _ ih =>
    obtain ⟨p, s, a, e1, e2⟩ := a
    exact .out ⟨p, s ++ z, a, by rw [e1, List.append_assoc], by rw [e2, List.append_assoc]⟩ ih
end BW
namespace BW
open PySem L2 DL
theorem r_is_row (BC : Addr) (X : List Addr) (ds : List D) (k : Nat) (R : D → Nat → Prop) (h : sp_is_row BC ds k R) : t_is_row BC (En R) (St0 false 3 ds X k) := by
  obtain ⟨T, r, rfl, ht, hr, h⟩ := h
  have hT := ht.hi
  refine ⟨_, rfl, _, _, rfl, rfl, _, rfl, iteF ⟨_, rfl, _, rfl, ⟨_, _, rfl⟩, T, rfl, hT, T.length, rfl, by omega, ?_⟩⟩
  refine ⟨rfl, rfl, _, rfl, ?_⟩
  rw [eqvI, List.length_map, hr, decide_eq_true rfl]
  refine iteF fun X' => ?_
  refine ⟨_, rfl, _, rfl, by rw [List.length_map, hr]; exact Nat.le_trans hT (by decide), fun p hp => ⟨fun j acc k' => k' = k ∧ acc = (List.replicate j true).map D.bl, ⟨rfl, rfl⟩, ?_, ?_⟩⟩
  · rintro j d acc k' hd ⟨rfl, rfl⟩ _
    rw [List.getElem?_map] at hd
    obtain ⟨a, ha, rfl⟩ := Option.map_eq_some_iff.mp hd
    refine iteT ⟨_, rfl, _, rfl, rfl, rfl, ?_⟩
    rw [List.replicate_succ', List.map_append]
    rfl
  · rintro acc k' ⟨rfl, rfl⟩ _
    refine ⟨_, rfl, ?_⟩
    rw [show (List.replicate ((r.map D.int).length) true).all id = true from by rw [List.all_replicate]; simp]
    exact h
end BW
namespace BW
open PySem L2 DL
theorem r_lasts (BC : Addr) (X : List Addr) (ds : List D) (k : Nat) (R : D → Nat → Prop) (h : sp_lasts BC ds k R) : t_lasts BC (En R) (St0 false 2 ds X k) := by
  obtain ⟨T, d, w, rfl, ht, hw, hl, hd, h⟩ := h
  intro X
  refine ⟨_, rfl, _, rfl, T, d, w, rfl, ht, hw, hl, hd, ?_⟩
  exact ⟨_, rfl, by rw [row_length]; exact ht.hi, h⟩
end BW
namespace BW
open PySem L2 DL
def lw (T : Mat) (w : List Int) : List Int := (wd T 60 (row T w.reverse)).1
def sp_word_of (BC : Addr) : DSp := fun ds k R => ∃ T w, ds = [bnd BC T, tI (row T w)] ∧ Tab T ∧ Wd T.length w ∧ w.length ≤ 60 ∧ R (tI (lw T w)) k
abbrev t_word_of (BC : Addr) : DS := (dSeq (dIfS (dNot (dTru (dCall (sp_is_row BC) (dCons (dVar 0) (dCons (dVar 1) dNil))))) (fun _ _ => False) dNext)
  (dSeq (dAsg (dCall (sp_way_down BC) (dCons (dVar 0) (dCons (dVar 1) dNil))) (dgTup 2 (dgCons (dgN 2) (dgCons (dgN 3) dgNil))))
  (dSeq (dIfS (dTB (dOp oNe (dVar 3) (dCall (sp_first_row BC) (dCons (dVar 0) dNil)))) (fun _ _ => False) dNext)
  (dRet (dTupOf (dOp oIx (dCall (sp_way_down BC) (dCons (dVar 0) (dCons (dCall (sp_row_behind BC) (dCons (dVar 0) (dCons (dVar 2) dNil))) dNil))) (dC (.int 0))))))))
def sp_least_word (BC : Addr) : DSp := fun ds k R => ∃ T d w, ds = [bnd BC T, d] ∧ Tab T ∧ isW d w ∧ w.length ≤ 60 ∧ Wd T.length w ∧ R (tI (lw T w)) k
abbrev t_least_word (BC : Addr) : DS := (dRet (dCall (sp_word_of BC) (dCons (dVar 0) (dCons (dCall (sp_row_of BC) (dCons (dVar 0) (dCons (dVar 1) dNil))) dNil))))
theorem wd_path {T : Mat} (ht : Tab T) : ∀ (f : Nat) {w : List Int}, Wd T.length w → Wd T.length (wd T f (row T w)).1 ∧ (wd T f (row T w)).2 = row T (w ++ (wd T f (row T w)).1)
  | 0, w, hw => ⟨fun a ha => (nomatch ha), by rw [show (wd T 0 (row T w)).1 = [] from rfl, List.append_nil]; rfl⟩
  | f + 1, w, hw => by
    cases e : fall (row T w) with
    | nil =>
      rw [wd_nil e]
      exact ⟨fun a ha => (nomatch ha), by rw [List.append_nil]⟩
    | cons a q =>
      obtain ⟨i, ea, hi, _⟩ := fall_mem (by rw [e]; exact List.mem_cons_self : a ∈ fall (row T w))
      rw [row_length] at hi
      subst ea
      have h1 : Wd T.length (w ++ [(i : Int) + 1]) := wd_app hw (wd_one hi)
      have h3 : press T (row T w) (ix ((i : Int) + 1)) = row T (w ++ [(i : Int) + 1]) := row_snoc.symm
      rw [wd_cons e, h3]
      obtain ⟨i1, i2⟩ := wd_path ht f h1
      refine ⟨fun z hz => ?_, ?_⟩
      · rcases List.mem_cons.mp hz with rfl | hz
        · exact ⟨by omega, by omega⟩
        · exact i1 z hz
      · show (wd T f (row T (w ++ [(i : Int) + 1]))).2 = _
        rw [i2, List.append_assoc]
        rfl
theorem row_rev {T : Mat} (ht : Tab T) {u v : List Int} (hu : Wd T.length u) (hv : Wd T.length v) (e : row T u = row T v) : row T u.reverse = row T v.reverse := by
  refine (row_eq_iff (wd_rev hu) (wd_rev hv)).mpr ?_
  rw [List.map_reverse, List.map_reverse]
  exact TT.Rw.rev (car_of ht) (lets_of hu) (lets_of hv) ((row_eq_iff hu hv).mp e)
theorem wd_back {T : Mat} (ht : Tab T) {w : List Int} (hw : Wd T.length w) (hl : w.length ≤ 60) : (wd T 60 (row T w)).2 = one T ∧ row T (wd T 60 (row T w)).1 = row T w.reverse := by
  obtain ⟨n, hn, hn2⟩ := LN.has hw
  obtain ⟨m1, m2⟩ := wd_path ht 60 hw
  have e1 := (wd_len ht n hw hn (by omega : n ≤ 60)).2
  refine ⟨e1, ?_⟩
  rw [e1] at m2
  have b := row_back ht (u := []) (z := w ++ (wd T 60 (row T w)).1) (l := []) (fun a ha => nomatch ha) (by rw [List.append_nil]; exact m2.symm)
  have c : row T ([] : List Int) = row T (w ++ (wd T 60 (row T w)).1) := m2
  -- w = the letters gone back
  have d := row_back ht (u := w) (z := []) m1 c
  rw [List.nil_append] at d
  have e := row_rev ht (wd_rev m1) hw d
  rw [List.reverse_reverse] at e
  exact e
theorem LN.par {T : Mat} (ht : Tab T) : ∀ (n : Nat) {w : List Int} {k : Nat}, w.length = n → Wd T.length w → LN T w k → k % 2 = n % 2
  | 0, w, k, hl, hw, h => by
    obtain ⟨j, hj, hj2⟩ := LN.has hw
    have := LN.uniq h hj
    omega
  | n + 1, w, k, hl, hw, h => by
    rcases snoc_cases hw with rfl | ⟨v, i, hi, wv, rfl⟩
    · cases hl
    · rw [List.length_append, List.length_singleton] at hl
      obtain ⟨j, hj, hj2⟩ := LN.has wv
      have ih := LN.par ht n (by omega : v.length = n) wv hj
      have m := LN.more ht wv hj hi
      by_cases c : ((i : Int) + 1) ∈ fall (row T v)
      · rw [if_pos c] at m
        have := LN.uniq h m.2
        omega
      · rw [if_neg c] at m
        have := LN.uniq h m
        omega
theorem mv_row {T : Mat} (ht : Tab T) {w v : List Int} {e : Deed} (hw : Wd T.length w) (he : e.fits T.length w.length) (h : mv T w e = some v) : row T v = row T w := by
  cases e with
  | inn k a =>
    have h : (w.take k ++ [a, a]) ++ w.drop k = v := Option.some.inj h
    subst h
    obtain ⟨i, rfl⟩ : ∃ i : Nat, a = (i : Int) + 1 := ⟨(a - 1).toNat, by have := he.2; omega⟩
    have hi : i < T.length := by have := he.2; omega
    have e1 := row_app (z := w.drop k) (row_undo ht (w := w.take k) hi)
    rw [List.take_append_drop] at e1
    rw [← e1, List.append_assoc (w.take k) [(i : Int) + 1] [(i : Int) + 1]]
    rfl
  | out k =>
    rw [mv_out] at h
    split at h
    · rename_i c
      cases h
      obtain ⟨c1, c2⟩ := c
      have hk : k < w.length := by omega
      have ma := hw (w.getD k 0) (List.mem_of_getElem? (getD_get (d := 0) hk))
      obtain ⟨i, ei⟩ : ∃ i : Nat, w.getD k 0 = (i : Int) + 1 := ⟨(w.getD k 0 - 1).toNat, by omega⟩
      have hi : i < T.length := by omega
      have e1 := row_app (z := w.drop (k + 2)) (row_undo ht (w := w.take k) hi)
      rw [← e1]
      congr 1
      have d1 : w.drop k = w.getD k 0 :: w.drop (k + 1) := by
        rw [List.drop_eq_getElem_cons hk]
        congr 1
        rw [List.getD_eq_getElem?_getD, List.getElem?_eq_getElem hk]; rfl
      have d2 : w.drop (k + 1) = w.getD (k + 1) 0 :: w.drop (k + 2) := by
        rw [List.drop_eq_getElem_cons c1]
        congr 1
        rw [List.getD_eq_getElem?_getD, List.getElem?_eq_getElem c1]; rfl
      rw [List.append_assoc, List.append_assoc]
      conv => rhs; rw [← List.take_append_drop k w, d1, d2, ← c2, ei]
      rfl
    · cases h
  | turn k =>
    rw [mv_turn] at h
    split at h
    · rename_i c
      split at h
      · rename_i c2
        cases h
        obtain ⟨c1, cn⟩ := c
        obtain ⟨c3, c4⟩ := c2
        have hk : k < w.length := by omega
        have ma := hw (w.getD k 0) (List.mem_of_getElem? (getD_get (d := 0) hk))
        have mb := hw (w.getD (k + 1) 0) (List.mem_of_getElem? (getD_get (d := 0) c1))
        obtain ⟨i, ei⟩ : ∃ i : Nat, w.getD k 0 = (i : Int) + 1 := ⟨(w.getD k 0 - 1).toNat, by omega⟩
        obtain ⟨j, ej⟩ : ∃ j : Nat, w.getD (k + 1) 0 = (j : Int) + 1 := ⟨(w.getD (k + 1) 0 - 1).toNat, by omega⟩
        have hi : i < T.length := by omega
        have hj : j < T.length := by omega
        rw [ei, ej, ix_succ, ix_succ] at c3 c4 ⊢
        have ne : i ≠ j := fun z => cn (by rw [ei, ej, z])
        have hp : 0 < at2 T i j := by omega
        have e1 := row_app (z := w.drop (k + (at2 T i j).toNat)) (row_alt ht (w := w.take k) (fun z hz => hw z (List.mem_of_mem_take hz)) hi hj ne hp)
        rw [← e1]
        congr 1
        rw [← c4, List.append_assoc]
        conv => rhs; rw [← List.take_append_drop k w]
        congr 1
        rw [← List.drop_drop, List.take_append_drop]
      · cases h
    · cases h
end BW
set_option maxHeartbeats 1000000
namespace BW
open PySem L2 DL
def Ws (T : Mat) : List Int → List Deed → List Int → Prop
  | w, [], v => v = w
  | w, e :: r, v => ∃ k u, e = .turn k ∧ mv T w (.turn k) = some u ∧ Ws T u r v
theorem Ws.app {T : Mat} : ∀ {es fs : List Deed} {w u v : List Int}, Ws T w es u → Ws T u fs v → Ws T w (es ++ fs) v
  | [], fs, w, u, v, h, g => by
    have h : u = w := h
    subst h
    exact g
  | e :: r, fs, w, u, v, ⟨k, x, a, b, c⟩, g => ⟨k, x, a, b, Ws.app c g⟩
theorem mv_suf {T : Mat} {w u z : List Int} {k : Nat} (h : mv T w (.turn k) = some u) : mv T (w ++ z) (.turn k) = some (u ++ z) := by
  rw [mv_turn] at h ⊢
  split at h
  case isFalse => cases h
  rename_i c
  have g0 : (w ++ z).getD k 0 = w.getD k 0 := by rw [List.getD_eq_getElem?_getD, List.getD_eq_getElem?_getD, List.getElem?_append_left (by omega)]
  have g1 : (w ++ z).getD (k + 1) 0 = w.getD (k + 1) 0 := by rw [List.getD_eq_getElem?_getD, List.getD_eq_getElem?_getD, List.getElem?_append_left (by omega)]
  rw [g0, g1, if_pos ⟨by rw [List.length_append]; omega, c.2⟩]
  split at h
  case isFalse => cases h
  rename_i c2
  cases h
  have l := congrArg List.length c2.2
  rw [alt_length, List.length_take, List.length_drop] at l
  have d1 : (w ++ z).drop k = w.drop k ++ z := List.drop_append_of_le_length (by omega)
  have t1 : ((w ++ z).drop k).take (at2 T (ix (w.getD k 0)) (ix (w.getD (k + 1) 0))).toNat = (w.drop k).take (at2 T (ix (w.getD k 0)) (ix (w.getD (k + 1) 0))).toNat := by
    rw [d1, List.take_append_of_le_length (by rw [List.length_drop]; omega)]
  rw [t1, if_pos c2, List.take_append_of_le_length (by omega), List.drop_append_of_le_length (by omega), List.append_assoc (_ ++ _) _ z]
theorem Ws.suf {T : Mat} {z : List Int} : ∀ {es : List Deed} {w v : List Int}, Ws T w es v → Ws T (w ++ z) es (v ++ z)
  | [], w, v, h => by
    have h : v = w := h
    subst h
    rfl
  | e :: r, w, v, ⟨k, u, a, b, c⟩ => ⟨k, u ++ z, a, mv_suf b, Ws.suf c⟩
theorem Ws.all {T : Mat} (ht : Tab T) : ∀ {es : List Deed} {w v : List Int}, Ws T w es v → Wd T.length w → Wd T.length v ∧ v.length = w.length ∧ row T v = row T w
  | [], w, v, h, hw => by
    have h : v = w := h
    subst h
    exact ⟨hw, rfl, rfl⟩
  | e :: r, w, v, ⟨k, u, a, b, c⟩, hw => by
    have hu : Wd T.length u := mv_wd (e := .turn k) hw trivial b
    obtain ⟨h1, h2, h3⟩ := Ws.all ht c hu
    exact ⟨h1, h2.trans (mv_turn_len0 b), h3.trans (mv_row ht (e := .turn k) hw trivial b)⟩
where
  mv_turn_len0 {T : Mat} {w v : List Int} {k : Nat} (h : mv T w (.turn k) = some v) : v.length = w.length := by
    rw [mv_turn] at h
    split at h
    · rename_i c
      split at h
      · rename_i c2
        cases h
        have l := congrArg List.length c2.2
        rw [alt_length, List.length_take, List.length_drop] at l
        rw [List.length_append, List.length_append, alt_length, List.length_take, List.length_drop]
        omega
      · cases h
    · cases h
abbrev blS (f : List Int → Int → List Int × List Deed) (L : Nat) (a b : Int) (s0 : List Int × List Deed) : Nat → List Int × List Deed
  | 0 => s0
  | p + 1 => ((f ((blS f L a b s0 p).1.take (L - p)) (if p % 2 = 0 then a else b)).1 ++ (blS f L a b s0 p).1.drop (L - p), (blS f L a b s0 p).2 ++ (f ((blS f L a b s0 p).1.take (L - p)) (if p % 2 = 0 then a else b)).2)
def bl (T : Mat) : Nat → List Int → Int → List Int × List Deed
  | 0, w, _ => (w, [])
  | n + 1, w, a => if w.getLastD 0 = a then (w, []) else
    ((mv T (blS (bl T n) w.length (w.getLastD 0) a (w, []) (at2 T (ix (w.getLastD 0)) (ix a)).toNat).1 (.turn (w.length - (at2 T (ix (w.getLastD 0)) (ix a)).toNat))).getD (blS (bl T n) w.length (w.getLastD 0) a (w, []) (at2 T (ix (w.getLastD 0)) (ix a)).toNat).1,
      (blS (bl T n) w.length (w.getLastD 0) a (w, []) (at2 T (ix (w.getLastD 0)) (ix a)).toNat).2 ++ [.turn (w.length - (at2 T (ix (w.getLastD 0)) (ix a)).toNat)])
def sz (w : List Int) (a : Int) : Nat := 2 * w.length + if w.getLastD 0 = a then 0 else 1
theorem bl_same {T : Mat} {n : Nat} {w : List Int} {a : Int} (h : w.getLastD 0 = a) : bl T n w a = (w, []) := by
  cases n with
  | zero => rfl
  | succ n =>
    unfold bl
    rw [if_pos h]
theorem lastD_snoc (v : List Int) (a : Int) : (v ++ [a]).getLastD 0 = a := by
  rw [List.getLastD_eq_getLast?, List.getLast?_append]; rfl
structure Bq (T : Mat) (w : List Int) (j : Nat) : Prop where
  hj : j < T.length
  hw : Wd T.length w
  sh : Sh T w
  lo : (row T w).getD j 0 < 0
structure Br (T : Mat) (w : List Int) (j : Nat) (r : List Int × List Deed) : Prop where
  ws : Ws T w r.2 r.1
  last : ∃ v, r.1 = v ++ [(j : Int) + 1]
  few2 : 2 * r.2.length ≤ 2 ^ w.length
theorem Br.few {T : Mat} {w : List Int} {j : Nat} {r : List Int × List Deed} (h : Br T w j r) : r.2.length < 2 ^ w.length := by
  have := h.few2
  have := Nat.two_pow_pos w.length
  omega
theorem alt_snoc (a b : Int) (p : Nat) : alt a b (p + 1) = alt a b p ++ [if p % 2 = 0 then a else b] := by
  unfold alt
  rw [List.range_succ, List.map_append]
  rfl
theorem Bq.ne {T : Mat} {w : List Int} {j : Nat} (h : Bq T w j) : w ≠ [] := fun z => by
  subst z
  have := h.lo
  have e : row T [] = one T := rfl
  rw [e] at this
  unfold one at this
  rw [List.getD_eq_getElem?_getD, List.getElem?_replicate, if_pos h.hj] at this
  exact absurd this (by decide)
theorem Bq.own {T : Mat} (ht : Tab T) {w : List Int} {j : Nat} (h : Bq T w j) : ∃ (v : List Int) (i : Nat), i < T.length ∧ w = v ++ [(i : Int) + 1] ∧ w.getLastD 0 = (i : Int) + 1 ∧ (row T w).getD i 0 < 0 := by
  rcases snoc_cases h.hw with e | ⟨v, i, hi, hv, e⟩
  · exact absurd e h.ne
  · subst e
    exact ⟨v, i, hi, rfl, lastD_snoc v _, (Sh.last ht hi hv h.sh).1⟩
theorem LN.far {T : Mat} (ht : Tab T) : ∀ {z u : List Int} {k l : Nat}, Wd T.length u → Wd T.length z → LN T u k → LN T (u ++ z) l → k ≤ l + z.length
  | [], u, k, l, hu, hz, h, g => by
    rw [List.append_nil] at g
    have := h.uniq g
    show k ≤ l + 0
    omega
  | a :: z, u, k, l, hu, hz, h, g => by
    have ha := hz a List.mem_cons_self
    obtain ⟨i, rfl⟩ : ∃ i : Nat, a = (i : Int) + 1 := ⟨(a - 1).toNat, by omega⟩
    have hi : i < T.length := by omega
    have hu2 : Wd T.length (u ++ [(i : Int) + 1]) := wd_app hu (wd_one hi)
    have hz2 : Wd T.length z := fun b hb => hz b (List.mem_cons_of_mem _ hb)
    have e : u ++ (((i : Int) + 1) :: z) = (u ++ [(i : Int) + 1]) ++ z := by rw [List.append_assoc]; rfl
    rw [e] at g
    have m := LN.more ht hu h hi
    rw [List.length_cons]
    by_cases c : ((i : Int) + 1) ∈ fall (row T u)
    · rw [if_pos c] at m
      have := LN.far ht hu2 hz2 m.2 g
      have := m.1
      omega
    · rw [if_neg c] at m
      have := LN.far ht hu2 hz2 m g
      omega
theorem alt_cut (a b : Int) {p m : Nat} (h : p ≤ m) : alt a b m = alt a b p ++ (alt a b m).drop p := by
  have : (alt a b m).take p = alt a b p := by
    unfold alt
    rw [← List.map_take, List.take_range, Nat.min_eq_left h]
  rw [← this, List.take_append_drop]
theorem two_at {T : Mat} (ht : Tab T) {w : List Int} {i j : Nat} (hw : Wd T.length w) (hs : Sh T w) (hi : i < T.length) (hj : j < T.length) (ne : i ≠ j) (ni : (row T w).getD i 0 < 0) (nj : (row T w).getD j 0 < 0) :
    0 < at2 T i j ∧ (at2 T i j).toNat ≤ w.length ∧ ∀ p, p ≤ (at2 T i j).toNat → LN T (w ++ alt ((i : Int) + 1) ((j : Int) + 1) p) (w.length - p) := by
  obtain ⟨h0, hd⟩ := dn_two ht hw hs hi hj ne ni nj
  obtain ⟨l, e, hl⟩ := hd.end_
  refine ⟨h0, by omega, fun p hp => ?_⟩
  have wa : ∀ q, Wd T.length (alt ((i : Int) + 1) ((j : Int) + 1) q) := fun q => alt_wd ⟨by omega, by omega⟩ ⟨by omega, by omega⟩ q
  obtain ⟨kp, hkp, _⟩ := LN.has (wd_app hw (wa p))
  have f1 := LN.far ht hw (wa p) hs hkp
  rw [alt_length] at f1
  rw [alt_cut _ _ hp, ← List.append_assoc] at hl
  have f2 := LN.far ht (wd_app hw (wa p)) (fun b hb => wa _ b (List.mem_of_mem_drop hb)) hkp hl
  rw [List.length_drop, alt_length] at f2
  have : kp = w.length - p := by omega
  rw [this] at hkp
  exact hkp
theorem fall_of_less {T : Mat} (ht : Tab T) {u : List Int} {k i : Nat} (hu : Wd T.length u) (hi : i < T.length) (h : LN T u (k + 1)) (g : LN T (u ++ [(i : Int) + 1]) k) : (row T u).getD i 0 < 0 := by
  have m := LN.more ht hu h hi
  by_cases c : ((i : Int) + 1) ∈ fall (row T u)
  · exact (mem_fall (by rw [row_length]; exact hi)).mp c
  · rw [if_neg c] at m
    have := m.uniq g
    omega
structure Ip (T : Mat) (w : List Int) (i j p : Nat) (s : List Int × List Deed) : Prop where
  ws : Ws T w s.2 s.1
  ex : ∃ h, s.1 = h ++ (alt ((i : Int) + 1) ((j : Int) + 1) p).reverse ∧ h.length = w.length - p ∧ Wd T.length h ∧ row T h = row T (w ++ alt ((i : Int) + 1) ((j : Int) + 1) p)
  few : (p = 0 ∧ s.2.length = 0) ∨ (1 ≤ p ∧ 2 * s.2.length + 2 ^ (w.length - p + 1) ≤ 2 ^ w.length)
def xp (i j p : Nat) : Nat := if p % 2 = 0 then i else j
theorem xp_eq (i j p : Nat) : (if p % 2 = 0 then ((i : Int) + 1) else ((j : Int) + 1)) = ((xp i j p : Nat) : Int) + 1 := by
  unfold xp
  by_cases c : p % 2 = 0
  · rw [if_pos c, if_pos c]
  · rw [if_neg c, if_neg c]
section
variable {T : Mat} {w : List Int} {i j p : Nat} {s : List Int × List Deed}
theorem Ip.head (ht : Tab T) (hw : Wd T.length w) (hi : i < T.length) (hj : j < T.length) (I : Ip T w i j p s) (hp : p + 1 ≤ w.length) (l0 : LN T (w ++ alt ((i : Int) + 1) ((j : Int) + 1) p) (w.length - p)) (l1 : LN T (w ++ alt ((i : Int) + 1) ((j : Int) + 1) (p + 1)) (w.length - (p + 1))) :
    Bq T (s.1.take (w.length - p)) (xp i j p) ∧ (s.1.take (w.length - p)).length = w.length - p := by
  obtain ⟨h, e, lh, wh, rh⟩ := I.ex
  have et : s.1.take (w.length - p) = h := by rw [e, ← lh, List.take_left']; rfl
  rw [et]
  have wa : Wd T.length (alt ((i : Int) + 1) ((j : Int) + 1) p) := alt_wd ⟨by omega, by omega⟩ ⟨by omega, by omega⟩ p
  have hx : xp i j p < T.length := by unfold xp; split <;> assumption
  have sh : Sh T h := by
    have := l0.cong (wd_app hw wa) wh rh.symm
    rw [← lh] at this
    exact this
  refine ⟨⟨hx, wh, sh, ?_⟩, lh⟩
  rw [rh]
  have e1 : w ++ alt ((i : Int) + 1) ((j : Int) + 1) (p + 1) = (w ++ alt ((i : Int) + 1) ((j : Int) + 1) p) ++ [((xp i j p : Nat) : Int) + 1] := by rw [alt_snoc, xp_eq, List.append_assoc]
  rw [e1] at l1
  have e2 : w.length - p = (w.length - (p + 1)) + 1 := by omega
  rw [e2] at l0
  exact fall_of_less ht (wd_app hw wa) hx l0 l1
theorem Ip.next (ht : Tab T) (hw : Wd T.length w) (hi : i < T.length) (hj : j < T.length) (I : Ip T w i j p s) (hp : p + 1 ≤ w.length) {r : List Int × List Deed} (hr : Br T (s.1.take (w.length - p)) (xp i j p) r) (h0 : p = 0 → r.2 = []) :
    Ip T w i j (p + 1) (r.1 ++ s.1.drop (w.length - p), s.2 ++ r.2) := by
  obtain ⟨h, e, lh, wh, rh⟩ := I.ex
  have et : s.1.take (w.length - p) = h := by rw [e, ← lh, List.take_left']; rfl
  have ed : s.1.drop (w.length - p) = (alt ((i : Int) + 1) ((j : Int) + 1) p).reverse := by rw [e, ← lh, List.drop_left']; rfl
  rw [et] at hr
  rw [ed]
  have hx : xp i j p < T.length := by unfold xp; split <;> assumption
  obtain ⟨v, ev⟩ := hr.last
  obtain ⟨a1, a2, a3⟩ := hr.ws.all ht wh
  have wv : Wd T.length v := fun b hb => a1 b (by rw [ev]; exact List.mem_append_left _ hb)
  have lv : v.length + 1 = h.length := by rw [← a2, ev, List.length_append]; rfl
  have e1 : alt ((i : Int) + 1) ((j : Int) + 1) (p + 1) = alt ((i : Int) + 1) ((j : Int) + 1) p ++ [((xp i j p : Nat) : Int) + 1] := by rw [alt_snoc, xp_eq]
  refine ⟨?_, ⟨v, ?_, by omega, wv, ?_⟩, ?_⟩
  · refine I.ws.app ?_
    rw [e]
    exact hr.ws.suf
  · show r.1 ++ (alt ((i : Int) + 1) ((j : Int) + 1) p).reverse = _
    rw [e1, List.reverse_append, ev, List.append_assoc]
    rfl
  · rw [e1, ← List.append_assoc]
    refine row_cancel ht hx ?_
    rw [row_undo ht hx, ← ev, a3, rh]
  · have lf := hr.few2
    rw [lh] at lf
    refine .inr ⟨by omega, ?_⟩
    show 2 * (s.2 ++ r.2).length + 2 ^ (w.length - (p + 1) + 1) ≤ 2 ^ w.length
    rw [List.length_append, show w.length - (p + 1) + 1 = w.length - p by omega]
    rcases I.few with ⟨rfl, z⟩ | ⟨h1, z⟩
    · rw [h0 rfl, z, Nat.sub_zero]
      show 2 * (0 + 0) + _ ≤ _
      omega
    · have : 2 ^ (w.length - p + 1) = 2 ^ (w.length - p) * 2 := Nat.pow_succ ..
      omega
end
end BW
set_option maxHeartbeats 1000000
namespace BW
open PySem L2 DL
theorem turn_at {T : Mat} (ht : Tab T) {h : List Int} {a b : Nat} (ha : a < T.length) (hb : b < T.length) (ne : a ≠ b) (h0 : 0 < at2 T a b) :
    mv T (h ++ alt ((a : Int) + 1) ((b : Int) + 1) (at2 T a b).toNat) (.turn h.length) = some (h ++ alt ((b : Int) + 1) ((a : Int) + 1) (at2 T a b).toNat) := by
  obtain ⟨m, em⟩ : ∃ m, (at2 T a b).toNat = m + 2 := by
    rcases ht.of a b ha hb ne with e | e | e | e | e
    · exact ⟨0, by rw [e]; rfl⟩
    · exact ⟨1, by rw [e]; rfl⟩
    · exact ⟨2, by rw [e]; rfl⟩
    · exact ⟨4, by rw [e]; rfl⟩
    · rw [e] at h0; exact absurd h0 (by decide)
  have la : (alt ((a : Int) + 1) ((b : Int) + 1) (at2 T a b).toNat).length = (at2 T a b).toNat := alt_length _ _ _
  have g0 : (h ++ alt ((a : Int) + 1) ((b : Int) + 1) (at2 T a b).toNat).getD h.length 0 = (a : Int) + 1 := by
    rw [List.getD_eq_getElem?_getD, List.getElem?_append_right (Nat.le_refl _), Nat.sub_self, em, alt_succ]; rfl
  have g1 : (h ++ alt ((a : Int) + 1) ((b : Int) + 1) (at2 T a b).toNat).getD (h.length + 1) 0 = (b : Int) + 1 := by
    rw [List.getD_eq_getElem?_getD, List.getElem?_append_right (by omega), show h.length + 1 - h.length = 1 by omega, em, alt_succ, alt_succ]; rfl
  have d1 : (h ++ alt ((a : Int) + 1) ((b : Int) + 1) (at2 T a b).toNat).drop h.length = alt ((a : Int) + 1) ((b : Int) + 1) (at2 T a b).toNat := List.drop_left
  have t1 : (alt ((a : Int) + 1) ((b : Int) + 1) (at2 T a b).toNat).take (at2 T a b).toNat = alt ((a : Int) + 1) ((b : Int) + 1) (at2 T a b).toNat := List.take_of_length_le (by rw [la]; exact Nat.le_refl _)
  have d2 : (h ++ alt ((a : Int) + 1) ((b : Int) + 1) (at2 T a b).toNat).drop (h.length + (at2 T a b).toNat) = [] := List.drop_eq_nil_of_le (by rw [List.length_append, la]; exact Nat.le_refl _)
  rw [mv_turn, g0, g1, ix_succ, ix_succ, if_pos ⟨by rw [List.length_append, la, em]; omega, fun z => ne (by omega)⟩, d1, t1, if_pos ⟨by omega, rfl⟩, d2, List.append_nil, List.take_left]
theorem fin_mv {T : Mat} (ht : Tab T) {h : List Int} {i j : Nat} (hi : i < T.length) (hj : j < T.length) (ne : i ≠ j) (h0 : 0 < at2 T i j) :
    mv T (h ++ (alt ((i : Int) + 1) ((j : Int) + 1) (at2 T i j).toNat).reverse) (.turn h.length) = some (h ++ (alt ((j : Int) + 1) ((i : Int) + 1) (at2 T i j).toNat).reverse) := by
  have sy := ht.sy i j hi hj
  rcases alt_rev ht hi hj ne h0 with ⟨a, b⟩ | ⟨a, b⟩
  · rw [a, b]; exact turn_at ht hi hj ne h0
  · rw [a, b]
    have := turn_at ht (h := h) hj hi (fun z => ne z.symm) (by rw [← sy]; exact h0)
    rw [← sy] at this
    exact this
theorem bl_succ {T : Mat} {n : Nat} {w : List Int} {i j : Nat} (hl : w.getLastD 0 = (i : Int) + 1) (ne : i ≠ j) : bl T (n + 1) w ((j : Int) + 1) =
    ((mv T (blS (bl T n) w.length ((i : Int) + 1) ((j : Int) + 1) (w, []) (at2 T i j).toNat).1 (.turn (w.length - (at2 T i j).toNat))).getD (blS (bl T n) w.length ((i : Int) + 1) ((j : Int) + 1) (w, []) (at2 T i j).toNat).1,
      (blS (bl T n) w.length ((i : Int) + 1) ((j : Int) + 1) (w, []) (at2 T i j).toNat).2 ++ [.turn (w.length - (at2 T i j).toNat)]) := by
  show (if w.getLastD 0 = (j : Int) + 1 then (w, []) else _) = _
  rw [hl, if_neg (fun z => ne (by omega)), ix_succ, ix_succ]
theorem ip_all {T : Mat} (ht : Tab T) {n : Nat} (ih : ∀ {w : List Int} {j : Nat}, Bq T w j → sz w ((j : Int) + 1) < n → Br T w j (bl T n w ((j : Int) + 1))) {w : List Int} {i j : Nat} (hw : Wd T.length w) (hs : Sh T w) (hl : w.getLastD 0 = (i : Int) + 1) (hi : i < T.length) (hj : j < T.length) (ne : i ≠ j) (hn : 2 * w.length < n)
    (bm : (at2 T i j).toNat ≤ w.length) (lns : ∀ p, p ≤ (at2 T i j).toNat → LN T (w ++ alt ((i : Int) + 1) ((j : Int) + 1) p) (w.length - p)) :
    ∀ p, p ≤ (at2 T i j).toNat → Ip T w i j p (blS (bl T n) w.length ((i : Int) + 1) ((j : Int) + 1) (w, []) p)
  | 0, _ => ⟨rfl, ⟨w, by show w = w ++ [].reverse; rw [List.reverse_nil, List.append_nil], rfl, hw, by show _ = row T (w ++ []); rw [List.append_nil]⟩, .inl ⟨rfl, rfl⟩⟩
  | p + 1, hp => by
    have I := ip_all ht ih hw hs hl hi hj ne hn bm lns p (by omega)
    generalize hsd : blS (bl T n) w.length ((i : Int) + 1) ((j : Int) + 1) (w, []) p = s at I
    obtain ⟨q, lq⟩ := I.head ht hw hi hj (by omega) (lns p (by omega)) (lns (p + 1) hp)
    show Ip T w i j (p + 1) (((bl T n) ((blS (bl T n) w.length ((i : Int) + 1) ((j : Int) + 1) (w, []) p).1.take (w.length - p)) (if p % 2 = 0 then ((i : Int) + 1) else ((j : Int) + 1))).1 ++ (blS (bl T n) w.length ((i : Int) + 1) ((j : Int) + 1) (w, []) p).1.drop (w.length - p), (blS (bl T n) w.length ((i : Int) + 1) ((j : Int) + 1) (w, []) p).2 ++ ((bl T n) ((blS (bl T n) w.length ((i : Int) + 1) ((j : Int) + 1) (w, []) p).1.take (w.length - p)) (if p % 2 = 0 then ((i : Int) + 1) else ((j : Int) + 1))).2)
    rw [xp_eq, hsd]
    have p0 : p = 0 → s.1.take (w.length - p) = w ∧ xp i j p = i := fun z => by
      subst z
      have : (w, []) = s := hsd
      subst this
      exact ⟨by rw [Nat.sub_zero, List.take_length], rfl⟩
    have szq : sz (s.1.take (w.length - p)) ((xp i j p : Nat) + 1) < n := by
      unfold sz
      rw [lq]
      by_cases c : p = 0
      · obtain ⟨e1, e2⟩ := p0 c
        rw [e1, e2, hl, if_pos rfl]
        omega
      · split <;> omega
    refine I.next ht hw hi hj (by omega) (ih q szq) fun z => ?_
    obtain ⟨e1, e2⟩ := p0 z
    rw [e1, e2, bl_same hl]
theorem bl_ok {T : Mat} (ht : Tab T) : ∀ (n : Nat) {w : List Int} {j : Nat}, Bq T w j → sz w ((j : Int) + 1) < n → Br T w j (bl T n w ((j : Int) + 1))
  | 0, w, j, _, h => absurd h (Nat.not_lt_zero _)
  | n + 1, w, j, q, h => by
    obtain ⟨v, i, hi, ew, hl, ni⟩ := q.own ht
    by_cases c : i = j
    · subst c
      rw [bl_same hl]
      exact ⟨rfl, ⟨v, ew⟩, Nat.zero_le _⟩
    · obtain ⟨b0, bm, lns⟩ := two_at ht q.hw q.sh hi q.hj c ni q.lo
      have hn : 2 * w.length < n := by
        unfold sz at h
        rw [hl, if_neg (fun z => c (by omega))] at h
        omega
      have I := ip_all ht (fun {w j} => bl_ok ht n (w := w) (j := j)) q.hw q.sh hl hi q.hj c hn bm lns (at2 T i j).toNat (Nat.le_refl _)
      rw [bl_succ hl c]
      generalize blS (bl T n) w.length ((i : Int) + 1) ((j : Int) + 1) (w, []) (at2 T i j).toNat = s at I
      obtain ⟨h1, e1, l1, w1, r1⟩ := I.ex
      have hmv : mv T s.1 (.turn (w.length - (at2 T i j).toNat)) = some (h1 ++ (alt ((j : Int) + 1) ((i : Int) + 1) (at2 T i j).toNat).reverse) := by
        rw [e1, ← l1]; exact fin_mv ht hi q.hj c b0
      obtain ⟨m, em⟩ := alt_pos ht hi q.hj c b0
      refine ⟨?_, ⟨h1 ++ (alt ((i : Int) + 1) ((j : Int) + 1) m).reverse, ?_⟩, ?_⟩
      · show Ws T w (s.2 ++ [.turn (w.length - (at2 T i j).toNat)]) ((mv T s.1 (.turn (w.length - (at2 T i j).toNat))).getD s.1)
        rw [hmv]
        exact I.ws.app ⟨_, _, rfl, hmv, rfl⟩
      · show (mv T s.1 (.turn (w.length - (at2 T i j).toNat))).getD s.1 = _
        rw [hmv]
        show h1 ++ (alt ((j : Int) + 1) ((i : Int) + 1) (at2 T i j).toNat).reverse = _
        rw [em, alt_succ, List.reverse_cons, List.append_assoc]
      · show 2 * (s.2 ++ [Deed.turn (w.length - (at2 T i j).toNat)]).length ≤ _
        rw [List.length_append]
        show 2 * (s.2.length + 1) ≤ _
        rcases I.few with ⟨z, _⟩ | ⟨_, z⟩
        · omega
        · have : 2 ^ (w.length - (at2 T i j).toNat + 1) = 2 ^ (w.length - (at2 T i j).toNat) * 2 := Nat.pow_succ ..
          have := Nat.two_pow_pos (w.length - (at2 T i j).toNat)
          omega
end BW
set_option maxHeartbeats 1000000
namespace BW
open PySem L2 DL
def Wo (T : Mat) : List Int → List Deed → List Int → Prop
  | w, [], v => v = w
  | w, e :: r, v => ∃ k u, (e = .turn k ∨ e = .out k) ∧ mv T w e = some u ∧ Wo T u r v
theorem Wo.app {T : Mat} : ∀ {es fs : List Deed} {w u v : List Int}, Wo T w es u → Wo T u fs v → Wo T w (es ++ fs) v
  | [], fs, w, u, v, h, g => by
    have h : u = w := h
    subst h
    exact g
  | e :: r, fs, w, u, v, ⟨k, x, a, b, c⟩, g => ⟨k, x, a, b, Wo.app c g⟩
theorem Ws.wo {T : Mat} : ∀ {es : List Deed} {w v : List Int}, Ws T w es v → Wo T w es v
  | [], w, v, h => h
  | e :: r, w, v, ⟨k, x, a, b, c⟩ => ⟨k, x, .inl a, by rw [a]; exact b, Ws.wo c⟩
theorem mv_out_at {T : Mat} {h z : List Int} {a : Int} : mv T (h ++ [a] ++ (a :: z)) (.out h.length) = some (h ++ z) := by
  have e : h ++ [a] ++ (a :: z) = h ++ (a :: a :: z) := by rw [List.append_assoc]; rfl
  rw [e, mv_out]
  have g0 : (h ++ (a :: a :: z)).getD h.length 0 = a := by rw [List.getD_eq_getElem?_getD, List.getElem?_append_right (Nat.le_refl _), Nat.sub_self]; rfl
  have g1 : (h ++ (a :: a :: z)).getD (h.length + 1) 0 = a := by rw [List.getD_eq_getElem?_getD, List.getElem?_append_right (by omega), show h.length + 1 - h.length = 1 by omega]; rfl
  rw [g0, g1, if_pos ⟨by rw [List.length_append]; simp, rfl⟩, List.take_left]
  congr 2
  rw [show h ++ a :: a :: z = (h ++ [a, a]) ++ z by rw [List.append_assoc]; rfl, show h.length + 2 = (h ++ [a, a]).length by rw [List.length_append]; rfl, List.drop_left]
def tsStep (T : Mat) (s : List Deed × List Int) (a : Int) : List Deed × List Int :=
  if a ∈ fall (row T s.2) then (s.1 ++ ((bl T 40 s.2 a).2 ++ [.out ((bl T 40 s.2 a).1.length - 1)]), (bl T 40 s.2 a).1.take ((bl T 40 s.2 a).1.length - 1)) else (s.1, s.2 ++ [a])
structure Tq (T : Mat) (u : List Int) (s : List Deed × List Int) : Prop where
  wd : Wd T.length s.2
  sh : Sh T s.2
  rw_ : row T s.2 = row T u
  le : s.2.length ≤ u.length
  few : s.1.length < 2 ^ u.length
  led : ∀ z, Wo T (u ++ z) s.1 (s.2 ++ z)
theorem Tq.nil {T : Mat} : Tq T [] ([], []) := by
  refine ⟨fun a ha => (nomatch ha), ?_, rfl, Nat.le_refl _, by decide, fun z => rfl⟩
  obtain ⟨k, hk, h0⟩ := LN.has (T := T) (w := []) fun a ha => (nomatch ha)
  have : k = 0 := by have : k ≤ 0 := h0; omega
  subst this
  exact hk
theorem Tq.bq {T : Mat} {u : List Int} {s : List Deed × List Int} (q : Tq T u s) {i : Nat} (hi : i < T.length) (c : ((i : Int) + 1) ∈ fall (row T s.2)) (hl : u.length ≤ 16) : Bq T s.2 i ∧ sz s.2 ((i : Int) + 1) < 40 := by
  refine ⟨⟨hi, q.wd, q.sh, (mem_fall (by rw [row_length]; exact hi)).mp c⟩, ?_⟩
  have := q.le
  unfold sz
  split <;> omega
theorem Tq.step {T : Mat} (ht : Tab T) {u : List Int} {s : List Deed × List Int} (q : Tq T u s) {i : Nat} (hi : i < T.length) (hl : u.length ≤ 16) : Tq T (u ++ [(i : Int) + 1]) (tsStep T s ((i : Int) + 1)) := by
  have lu : (u ++ [(i : Int) + 1]).length = u.length + 1 := by rw [List.length_append]; rfl
  have rs : row T (s.2 ++ [(i : Int) + 1]) = row T (u ++ [(i : Int) + 1]) := row_app q.rw_
  have p2 : 2 ^ (u.length + 1) = 2 ^ u.length * 2 := Nat.pow_succ ..
  unfold tsStep
  by_cases c : ((i : Int) + 1) ∈ fall (row T s.2)
  · rw [if_pos c]
    obtain ⟨b, szb⟩ := q.bq hi c hl
    have br := bl_ok ht 40 b szb
    generalize bl T 40 s.2 ((i : Int) + 1) = r at br
    obtain ⟨v, ev⟩ := br.last
    obtain ⟨a1, a2, a3⟩ := br.ws.all ht q.wd
    have lv : r.1.length - 1 = v.length := by rw [ev, List.length_append]; rfl
    have tv : r.1.take (r.1.length - 1) = v := by rw [lv, ev, List.take_left]
    have wv : Wd T.length v := fun x hx => a1 x (by rw [ev]; exact List.mem_append_left _ hx)
    have shr : Sh T (v ++ [(i : Int) + 1]) := by
      have := q.sh.cong q.wd a1 a3.symm
      rw [← a2, ev] at this
      exact this
    have pl : 2 ^ s.2.length ≤ 2 ^ u.length := Nat.pow_le_pow_right (by decide) q.le
    refine ⟨?_, ?_, ?_, ?_, ?_, fun z => ?_⟩
    · show Wd T.length (r.1.take (r.1.length - 1)); rw [tv]; exact wv
    · show Sh T (r.1.take (r.1.length - 1)); rw [tv]; exact (Sh.last ht hi wv shr).2
    · show row T (r.1.take (r.1.length - 1)) = _
      rw [tv, ← rs, ← row_undo ht hi (w := v), ← ev]
      exact row_app a3
    · show (r.1.take (r.1.length - 1)).length ≤ _
      rw [tv, lu]
      have := q.le
      have : v.length + 1 = s.2.length := by rw [← a2, ev, List.length_append]; rfl
      omega
    · show (s.1 ++ (r.2 ++ [Deed.out (r.1.length - 1)])).length < _
      rw [List.length_append, List.length_append, lu]
      show s.1.length + (r.2.length + 1) < _
      have := q.few
      have := br.few
      omega
    · show Wo T (u ++ [(i : Int) + 1] ++ z) (s.1 ++ (r.2 ++ [.out (r.1.length - 1)])) (r.1.take (r.1.length - 1) ++ z)
      rw [tv, lv, List.append_assoc u]
      refine (q.led ([(i : Int) + 1] ++ z)).app ?_
      refine Wo.app (Ws.suf (z := [(i : Int) + 1] ++ z) br.ws).wo ?_
      rw [ev]
      exact ⟨v.length, v ++ z, .inr rfl, mv_out_at, rfl⟩
  · rw [if_neg c]
    have m := LN.more ht q.wd q.sh hi
    rw [if_neg c] at m
    refine ⟨wd_app q.wd (wd_one hi), ?_, rs, ?_, ?_, fun z => ?_⟩
    · show LN T (s.2 ++ [(i : Int) + 1]) (s.2 ++ [(i : Int) + 1]).length
      rw [List.length_append]
      exact m
    · show (s.2 ++ [(i : Int) + 1]).length ≤ _
      rw [List.length_append, lu]
      have := q.le
      show s.2.length + 1 ≤ _
      omega
    · show s.1.length < _
      rw [lu]
      have := q.few
      omega
    · show Wo T (u ++ [(i : Int) + 1] ++ z) s.1 (s.2 ++ [(i : Int) + 1] ++ z)
      rw [List.append_assoc, List.append_assoc]
      exact q.led _
end BW
set_option maxHeartbeats 1000000
set_option autoImplicit false
namespace BW
open PySem L2 DL
def tbS (T : Mat) (w v : List Int) : Nat → List Int × List Deed
  | 0 => (w, [])
  | p + 1 => ((bl T 40 ((tbS T w v p).1.take (v.length - p)) (v.getD (v.length - p - 1) 0)).1, (tbS T w v p).2 ++ (bl T 40 ((tbS T w v p).1.take (v.length - p)) (v.getD (v.length - p - 1) 0)).2)
def tb (T : Mat) (w v : List Int) : List Deed := (tbS T w v v.length).2
theorem Sh.pre {T : Mat} (ht : Tab T) : ∀ (n : Nat) {z : List Int}, z.length = n → ∀ {w : List Int}, Wd T.length w → Wd T.length z → Sh T (w ++ z) → Sh T w
  | 0, z, hn, w, hw, hz, h => by
    have : z = [] := List.eq_nil_of_length_eq_zero hn
    subst this
    rw [List.append_nil] at h
    exact h
  | n + 1, z, hn, w, hw, hz, h => by
    rcases snoc_cases hz with e | ⟨y, i, hi, hy, e⟩
    · rw [e] at hn; cases hn
    · subst e
      rw [← List.append_assoc] at h
      rw [List.length_append, List.length_singleton] at hn
      exact Sh.pre ht n (by omega) hw hy (Sh.last ht hi (wd_app hw hy) h).2
structure Tb (T : Mat) (w v : List Int) (p : Nat) (s : List Int × List Deed) : Prop where
  wd : Wd T.length (s.1.take (v.length - p))
  sh : Sh T (s.1.take (v.length - p))
  rw_ : row T (s.1.take (v.length - p)) = row T (v.take (v.length - p))
  ln : (s.1.take (v.length - p)).length = v.length - p
  few : 2 * s.2.length + 2 ^ (v.length - p + 1) ≤ 2 ^ (v.length + 1)
  led : Ws T w s.2 (s.1.take (v.length - p) ++ v.drop (v.length - p))
structure Tp (T : Mat) (w v : List Int) : Prop where
  hw : Wd T.length w
  hv : Wd T.length v
  sw : Sh T w
  sv : Sh T v
  al : row T w = row T v
theorem Tp.len {T : Mat} {w v : List Int} (h : Tp T w v) : w.length = v.length := (h.sw.cong h.hw h.hv h.al).uniq h.sv
theorem Tp.zero {T : Mat} {w v : List Int} (h : Tp T w v) : Tb T w v 0 (w, []) := by
  have l := h.len
  have e : (w, ([] : List Deed)).1.take (v.length - 0) = w := by rw [Nat.sub_zero, ← l]; exact List.take_length
  have e2 : v.take (v.length - 0) = v := by rw [Nat.sub_zero]; exact List.take_length
  have e3 : v.drop (v.length - 0) = [] := by rw [Nat.sub_zero]; exact List.drop_length
  refine ⟨by rw [e]; exact h.hw, by rw [e]; exact h.sw, by rw [e, e2]; exact h.al, by rw [e, l]; rfl, ?_, ?_⟩
  · show 2 * 0 + 2 ^ (v.length - 0 + 1) ≤ _
    rw [Nat.sub_zero]
    omega
  · rw [e, e3, List.append_nil]; rfl
theorem Tp.at_ {T : Mat} {w v : List Int} (h : Tp T w v) {p : Nat} (hp : p < v.length) : ∃ j : Nat, j < T.length ∧ v[v.length - p - 1]? = some ((j : Int) + 1) ∧ v.getD (v.length - p - 1) 0 = (j : Int) + 1 ∧ v.take (v.length - p) = v.take (v.length - (p + 1)) ++ [(j : Int) + 1] ∧ v.drop (v.length - (p + 1)) = ((j : Int) + 1) :: v.drop (v.length - p) := by
  have hg : v[v.length - p - 1]? = some (v[v.length - p - 1]'(by omega)) := List.getElem?_eq_getElem _
  have wa := h.hv _ (List.getElem_mem (by omega : v.length - p - 1 < v.length))
  obtain ⟨j, ej⟩ : ∃ j : Nat, v[v.length - p - 1]'(by omega) = (j : Int) + 1 := ⟨(v[v.length - p - 1]'(by omega) - 1).toNat, by omega⟩
  rw [ej] at hg wa
  have e1 : v.length - (p + 1) = v.length - p - 1 := by omega
  have e2 : v.length - p = v.length - p - 1 + 1 := by omega
  refine ⟨j, by omega, hg, by rw [List.getD_eq_getElem?_getD, hg]; rfl, ?_, ?_⟩
  · rw [e1]
    conv => lhs; rw [e2]
    rw [List.take_succ, hg]; rfl
  · rw [e1, List.drop_eq_getElem_cons (by omega : v.length - p - 1 < v.length), ej, ← e2]
theorem Tb.bq {T : Mat} (ht : Tab T) {w v : List Int} (h : Tp T w v) {p j : Nat} {s : List Int × List Deed} (I : Tb T w v p s) (hp : p < v.length) (hj : j < T.length) (et : v.take (v.length - p) = v.take (v.length - (p + 1)) ++ [(j : Int) + 1]) (hl : v.length ≤ 16) :
    Bq T (s.1.take (v.length - p)) j ∧ sz (s.1.take (v.length - p)) ((j : Int) + 1) < 40 := by
  have wt : ∀ n, Wd T.length (v.take n) := fun n a ha => h.hv a (List.mem_of_mem_take ha)
  have wdp : ∀ n, Wd T.length (v.drop n) := fun n a ha => h.hv a (List.mem_of_mem_drop ha)
  have sp : Sh T (v.take (v.length - p)) := Sh.pre ht _ rfl (wt _) (wdp (v.length - p)) (by rw [List.take_append_drop]; exact h.sv)
  refine ⟨⟨hj, I.wd, I.sh, ?_⟩, ?_⟩
  · rw [I.rw_, et]
    rw [et] at sp
    exact (Sh.last ht hj (wt _) sp).1
  · unfold sz
    rw [I.ln]
    split <;> omega
theorem Tb.next {T : Mat} (ht : Tab T) {w v : List Int} (h : Tp T w v) {p : Nat} {s : List Int × List Deed} (I : Tb T w v p s) (hp : p < v.length) (hl : v.length ≤ 16) :
    Tb T w v (p + 1) ((bl T 40 (s.1.take (v.length - p)) (v.getD (v.length - p - 1) 0)).1, s.2 ++ (bl T 40 (s.1.take (v.length - p)) (v.getD (v.length - p - 1) 0)).2) := by
  obtain ⟨j, hj, _, eg, et, ed⟩ := h.at_ hp
  obtain ⟨b, szb⟩ := I.bq ht h hp hj et hl
  have br := bl_ok ht 40 b szb
  rw [eg]
  generalize bl T 40 (s.1.take (v.length - p)) ((j : Int) + 1) = r at br
  obtain ⟨x, ex⟩ := br.last
  obtain ⟨a1, a2, a3⟩ := br.ws.all ht I.wd
  have lx : x.length = v.length - (p + 1) := by
    have := I.ln
    have : x.length + 1 = r.1.length := by rw [ex, List.length_append]; rfl
    omega
  have tx : r.1.take (v.length - (p + 1)) = x := by rw [ex, ← lx, List.take_left]
  have wx : Wd T.length x := fun y hy => a1 y (by rw [ex]; exact List.mem_append_left _ hy)
  have shr : Sh T (x ++ [(j : Int) + 1]) := by
    have := I.sh.cong I.wd a1 a3.symm
    rw [← a2, ex] at this
    exact this
  have lf := br.few2
  rw [I.ln] at lf
  refine ⟨by rw [tx]; exact wx, by rw [tx]; exact (Sh.last ht hj wx shr).2, ?_, by rw [tx]; exact lx, ?_, ?_⟩
  · rw [tx]
    refine row_cancel ht hj ?_
    rw [← ex, ← et, a3, I.rw_]
  · show 2 * (s.2 ++ r.2).length + 2 ^ (v.length - (p + 1) + 1) ≤ _
    rw [List.length_append, show v.length - (p + 1) + 1 = v.length - p by omega]
    have := I.few
    have : 2 ^ (v.length - p + 1) = 2 ^ (v.length - p) * 2 := Nat.pow_succ ..
    omega
  · show Ws T w (s.2 ++ r.2) (r.1.take (v.length - (p + 1)) ++ v.drop (v.length - (p + 1)))
    rw [tx, ed]
    have e : x ++ ((j : Int) + 1) :: v.drop (v.length - p) = r.1 ++ v.drop (v.length - p) := by rw [ex, List.append_assoc]; rfl
    rw [e]
    exact I.led.app (Ws.suf br.ws)
theorem Tp.all {T : Mat} (ht : Tab T) {w v : List Int} (h : Tp T w v) (hl : v.length ≤ 16) : ∀ p, p ≤ v.length → Tb T w v p (tbS T w v p)
  | 0, _ => h.zero
  | p + 1, hp => (Tp.all ht h hl p (by omega)).next ht h (by omega) hl
theorem Tp.end_ {T : Mat} (ht : Tab T) {w v : List Int} (h : Tp T w v) (hl : v.length ≤ 16) : Ws T w (tb T w v) v := by
  have I := (h.all ht hl v.length (Nat.le_refl _)).led
  rw [Nat.sub_self, List.take_zero, List.drop_zero, List.nil_append] at I
  exact I
end BW
namespace DL
open PySem L2
open PySem.W (Frag)
section
variable {X : Cx} {c : C} {tg : Expr}
theorem pid_seq (hK : c.K = X.K) {l : Expr} {t : DE} (h : PE X l (LE c t)) : PI X tg l (LI c (iSeq t)) := by
  refine ⟨fun pins s σ H R I ⟨st, Z, rp, q, f⟩ => ?_⟩
  refine thn (h.run pins s σ H (fun v H1 => ∃ d k ds, d.items = some ds ∧ Z ds k ∧ Rep c (st.at k) σ H1 ∧ AdvE c st.X H H1 ∧ Rl c.K (c.hid st.X H1) v d) I
    ⟨st, _, rp, q, fun d k ⟨ds, h1, h2⟩ v H1 r1 a1 e1 => ⟨d, k, ds, h1, h2, r1, a1, e1⟩⟩) fun v s1 ⟨x, H1, I1, rv, d, k, ds, hd, hz, rp1, a1, e1⟩ => ?_
  have fresh : ∀ b, s1.heap.objs.size ≤ b → H1 b = none := fun b hb => I1.hok.fresh hb
  have one : ∀ b ∈ [s1.heap.objs.size], s1.heap.objs.size ≤ b := fun b hb => by
    rw [List.mem_singleton.mp hb]; exact Nat.le_refl _
  cases d <;> first | cases hd | skip
  · obtain ⟨a, ws, rfl, h1, r⟩ := e1.lstE
    cases (show _ = Value.ref a from rv)
    obtain ⟨its, rv', p', hz'⟩ := I1.list (SqL.of (wo_sub _ _ _ _ h1) : SqL X.K H1 a ws)
    exact wpAny_pyIter_list p'.isList ⟨_, [s1.heap.objs.size], _, _, H1, rfl, I1.kept (t' := s1.toks) (fun b o e => Heap.get?_push_of_some _ e), turn_list a _,
      ⟨_, Heap.get?_push_size _ rfl, rfl, rfl⟩, fun b hb => I1.fpOk (one b hb) (fresh b (one b hb)), f _ k hz _ H1 rp1 a1 (Yl.list hK h1 r)⟩
  · obtain ⟨a, ws, rfl, h1, r⟩ := e1.tupE
    cases (show _ = Value.ref a from rv)
    obtain ⟨its, rv', p', hz'⟩ := I1.tuple (hK ▸ (wo_sub _ _).st h1 : SqT X.K H1 a ws)
    exact wpAny_pyIter_tuple (show s1.heap.IsTuple a its.toArray from p') ⟨_, [s1.heap.objs.size], _, _, H1, rfl, I1.kept (t' := s1.toks) (fun b o e => Heap.get?_push_of_some _ e), turn_tuple a _,
      ⟨_, Heap.get?_push_size _ rfl, rfl, rfl⟩, fun b hb => I1.fpOk (one b hb) (fresh b (one b hb)), f _ k hz _ H1 rp1 a1 (Yl.tup hK h1 r)⟩
end
end DL
namespace DL
open PySem L2
open PySem.W (Frag)
@[reducible] def Sl.plain : Sl → Bool
  | .own _ _ => false
  | _ => true
end DL
namespace DL
open PySem PySem.Spec PyProof.Rows L2
open PySem.W (Frag)
end DL
set_option maxHeartbeats 1000000
namespace DL
open PySem PySem.Spec PyProof.Rows L2
open PySem.W (Frag)
end DL
set_option maxHeartbeats 2000000
namespace XE1
open PySem PySem.W PySem.Calls PyProof.Rows PySem.HandSPX Builtin Builtin.ObjectAttr
section
variable {prog : Program} {w : World} {A : Around} {E : Value → Shared → Prop} {R : Result → Shared → Prop} {hp : Heap} {g : Array GenState} {d : Drawn} {t : Nat} {os : OsState}
theorem ld {M : Model} {s : Shared} {name : Str} {scope : Scope} {L a : Addr} {cd : Value} {m : Str → Option Value} {x : Str} {pos : Pos} {v : Value} {Q : Value → Shared → Prop} {A : Around} {E : Value → Shared → Prop} (hn : s.heap.Ns L m) (hv : m x = some v) (h : Q v s)
    (hk : scope.kind = .function) (hl : (envOfC name scope L a cd).kindOf x = some .local) (hd : (x == ("__debug__" : Str)) = false) :
    wpAny M A (eval (.Name x pos) (envOfC name scope L a cd)) Q E s := wpAny_Name (wpAny_loadName_local hk hl hn hv h) hd
end
end XE1
namespace DL
open PySem PySem.Spec PyProof.Rows L2
end DL
set_option maxHeartbeats 1000000
namespace DL
open PySem L2
open PySem.W (Frag)
def XRl (K : Frag) (H : Hp) (cls : Value) (dd : Option Addr) (d : D) : Prop := ∃ n ns ds vs, d = .exc n ns ds ∧ cls = .ref (He.ga K n) ∧ ExF H dd ns vs ∧ ns.length = vs.length ∧ RlA K H vs ds
theorem XRl.mono {K : Frag} {A B : Hp} (x : Sub A B) {cls : Value} {dd : Option Addr} {d : D} (h : XRl K A cls dd d) : XRl K B cls dd d := by
  obtain ⟨n, ns, ds, vs, e, c, f, l, r⟩ := h
  exact ⟨n, ns, ds, vs, e, c, f.mono x, l, r.mono x⟩
abbrev EX := D → S → Prop
def WL (c : C) (Ex : EX) : WX := fun cls dd σ H => ∃ s x, Rep c s σ H ∧ XRl c.K (c.hid s.X H) cls dd x ∧ Ex x s
theorem WL.imp {c : C} {Ex Ex' : EX} (h : ∀ d s, Ex d s → Ex' d s) : ∀ cls dd σ H, WL c Ex cls dd σ H → WL c Ex' cls dd σ H := fun _ _ _ _ ⟨s, x, r, e, q⟩ => ⟨s, x, r, e, h _ _ q⟩
abbrev DSpX := List D → Nat → (D → Nat → Prop) → (D → Nat → Prop) → Prop
def spDX (K : Frag) (hm : Bool) (sp : DSpX) : Sp := fun vs H Q E => ∃ (M : Option Mc) (X0 : List Addr) (k : Nat) (ds : List D) (ws : List V) (R Ex : D → Nat → Prop),
  (match hm with | true => ∃ m, (M = some m ∧ m.kd = none) ∧ vs = .ref m.pm :: ws | false => M = none ∧ vs = ws) ∧ Ahd K M X0 H k ws ds ∧ sp ds k R Ex ∧
  (∀ d k', R d k' → ∀ v H', Aft K M X0 H H' k' → Rl K (wo H' (Ml M ++ X0)) v d → Q v H') ∧
  ∀ d k', Ex d k' → ∀ cls dd H', Aft K M X0 H H' k' → XRl K (wo H' (Ml M ++ X0)) cls dd d → E cls dd H'
structure CalX (P : Program) (w : World) (K : Frag) (mg : PySem.Str → Option Value) (base : Heap) (k : Nat) (x : PySem.Str) (sp : DSpX) : Prop where
  ex : ∃ f fd ps, FnOk P w K mg base (L2.CX P w) k f fd ps (spDX K false sp) ∧ mg x = some (.ref f) ∧ PySem.W.keepIn K (.ref f) = true ∧ Binds K fd ps []
end DL
set_option maxHeartbeats 1000000
namespace DL
open PySem PySem.Spec PyProof.Rows L2
end DL
set_option maxHeartbeats 1000000
namespace DL
open PySem L2
open PySem.W (Frag)
end DL
set_option maxHeartbeats 1000000
namespace DL
open PySem PySem.Spec PyProof.Rows L2 LamX
theorem Takes.len {X : Cx} {W : WX} (t : Takes X W) : Takes X (fun cls d σ H => σ.length = X.N.length → W cls d σ H) := fun u s' ⟨a, B, sI, pins, σ, H, cls, d, e, I, nb, up, sky, na, os, ag, w⟩ =>
  t u s' ⟨a, B, sI, pins, σ, H, cls, d, e, I, nb, up, sky, na, os, ag, w I.len⟩
theorem PE.ex {X : Cx} {e : Expr} {t : TE} (h : PE X e t) : PE X e (fun σ H Q => ∃ R : VK, t σ H R ∧ ∀ v H', R v H' → Q v H') := ⟨fun p s σ H Q I ⟨R, q, f⟩ => thn (h.run p s σ H R I q) fun u s1 ⟨x, H1, I1, r, q1⟩ => ⟨x, H1, I1, r, f _ _ q1⟩⟩
end DL
set_option maxHeartbeats 1000000
namespace DL
open PySem PySem.Spec PyProof.Rows L2 LamX
def NoTs (H : Hp) : Prop := ∀ a ps, H a ≠ some (.tbl ps)
theorem tbk_none {A B : Hp} (h : NoTs A) (u : ∀ a vs, Rd A a (.tup vs) → Rd B a (.tup vs)) : TbK A B := by
  refine ⟨fun T t p hp => ?_, fun p ps e => absurd e (h p ps), u⟩
  obtain ⟨ps, e, _⟩ := t p hp
  exact absurd e (h _ ps)
end DL
set_option maxHeartbeats 1000000
namespace DL
open PySem PySem.Spec PyProof.Rows L2
open PySem.W (Frag)
end DL
set_option maxHeartbeats 1000000
namespace DL
open PySem L2
open PySem.W (Frag)
end DL
namespace BW
open PySem L2 DL
theorem r_word_of (BC : Addr) (X : List Addr) (ds : List D) (k : Nat) (R : D → Nat → Prop) (h : sp_word_of BC ds k R) : t_word_of BC (En R) (St0 false 4 ds X k) := by
  obtain ⟨T, w, rfl, ht, hw, hl, h⟩ := h
  have rlen := row_length T w
  have b := wd_back ht hw hl
  have wp := (wd_path ht 60 hw).1
  refine ⟨_, rfl, _, rfl, T, row T w, rfl, ht, rlen, _, rfl, iteF ?_⟩
  refine ⟨_, rfl, _, rfl, T, row T w, rfl, ht, rlen, ?_⟩
  refine ⟨rfl, rfl, ?_⟩
  refine ⟨_, rfl, _, rfl, T, rfl, ht, okE_tupI _, okE_tupI _, _, rfl, ?_⟩
  rw [eqv_tupI, decide_eq_true b.1]
  refine iteF fun X' => ?_
  refine ⟨_, rfl, _, rfl, _, rfl, T, _, (wd T 60 (row T w)).1, rfl, ht, .inl rfl, wp, T, row T (wd T 60 (row T w)).1, rfl, ht, row_length _ _, _, _, rfl, rfl, _, rfl, ?_⟩
  rw [b.2]
  exact h
theorem r_least_word (BC : Addr) (X : List Addr) (ds : List D) (k : Nat) (R : D → Nat → Prop) (h : sp_least_word BC ds k R) : t_least_word BC (En R) (St0 false 2 ds X k) := by
  obtain ⟨T, d, w, rfl, ht, hd, hl, hw, h⟩ := h
  intro X
  refine ⟨_, rfl, _, rfl, _, rfl, T, d, w, rfl, ht, hd, hl, hw, T, w, rfl, ht, hw, hl, h⟩
end BW
set_option maxHeartbeats 1000000
namespace L2G
open PySem PySem.Spec PyProof.Rows L2 LamX
theorem lawGT {P : Program} {w : World} {K : PySem.W.Frag} {mg mb : Str → Option Value} {k : Nat} {fa a : Addr} {cs : List (Addr × Addr)} {fd : FuncData} {x : Str} {sp : Sp} {s₁ : Shared} {vs : List Value} {ns : List Int}
    (kin : K.In s₁.heap) (gns : s₁.heap.Ns mainGlobals mg) (bns : s₁.heap.Ns builtinsNs mb) (bbo : ∀ x : Str, x ≠ "__name__" → mb x = bootBuiltins x) (nlim : s₁.heap.NoLimit) (gens : s₁.gens = #[])
    (tabs : ∀ p ∈ cs, s₁.heap.get? p.2 = some { cls := .none, data := .fields #[] }) (offT : ∀ p ∈ cs, K.lookup p.2 = none) (heads : ∀ p ∈ cs, PySem.W.CodeHd s₁.heap p.1 p.2)
    (bmod : ∃ (bm : Addr) (ob : Obj), mg "__builtins__" = some (.ref bm) ∧ bm ≠ builtinsNs ∧ s₁.heap.get? bm = some ob ∧ ob.cls = .type "module" ∧ ob.dict = some builtinsNs ∧ ob.data = .plain)
    (ob : s₁.heap.get? a = some { cls := .type "list", data := .seq vs.toArray }) (iar : IntsAre vs ns) (small : ns.length ≤ sizeLine) (room : Room k callerA)
    (F : ∀ base : Heap, K.In base → base.Ns mainGlobals mg → (∀ p ∈ cs, TabB base mg p.1 p.2) → FnG P w K mg base k fa fd [x] sp) (bind : ∀ (s : Shared) (u : Value), BindsTo s fd ⟨[u], []⟩ [(x, u)])
    (prom : ∀ H : Hp, (∀ p ∈ cs, H p.2 = some (.tbl #[])) → SqL K H a (ns.map V.int) → sp [.ref a] H (fun v _ => v = .bl true) fun _ _ _ => False) :
    codeAny (model P w) callerA (.call (.ref fa) ⟨[.ref a], []⟩) (fun r s' => r = .ok (.ret (.bool true)) ∧ OldK s₁.heap s'.heap ∧ s'.os = s₁.os ∧ AllBare s'.gens) s₁ := by
  have rel := vals_ints iar
  have same := iar.length
  let ts : List Addr := cs.map (·.2)
  have inTs : ∀ p ∈ cs, p.2 ∈ ts := fun p hp => List.mem_map.mpr ⟨p, hp, rfl⟩
  have tab_at : ∀ b ∈ ts, s₁.heap.get? b = some { cls := .none, data := .fields #[] } ∧ K.lookup b = none ∧ ∃ p ∈ cs, p.2 = b := fun b hb => by
    obtain ⟨p, hp, rfl⟩ := List.mem_map.mp hb
    exact ⟨tabs p hp, offT p hp, p, hp, rfl⟩
  have a_off : a ∉ ts := fun z => by
    have q := (tab_at a z).1
    rw [ob] at q
    cases congrArg (fun o => o.map Obj.data) q
  have main : ∀ H : Hp, (∀ b ∈ ts, H b = some (.tbl #[])) → (∀ b u, H b = some u → b ∈ ts ∨ (b = a ∧ ∃ o ys, u = .frz o (.lst ys))) → SqL K H a (ns.map V.int) → HOk P w H s₁.heap → (H a ≠ none → K.lookup a = none) →
      codeAny (model P w) callerA (.call (.ref fa) ⟨[.ref a], []⟩) (fun r s' => r = .ok (.ret (.bool true)) ∧ OldK s₁.heap s'.heap ∧ s'.os = s₁.os ∧ AllBare s'.gens) s₁ := by
    intro H hTb hOnly sq hk offK
    have tabH : ∀ p ∈ cs, H p.2 = some (.tbl #[]) := fun p hp => hTb _ (inTs p hp)
    -- what is tracked is the script or a table
    have free : ∀ {b : Addr} {o : Obj}, s₁.heap.get? b = some o → (∀ xs n, o.data ≠ .seq xs n) → o.data ≠ .fields #[] → H b = none := fun {b o} z n1 n2 => by
      cases y : H b with
      | none => rfl
      | some u =>
        exfalso
        rcases hOnly b u y with i | ⟨rfl, _⟩
        · rw [(tab_at b i).1] at z
          cases z
          exact n2 rfl
        · rw [ob] at z
          cases z
          exact n1 _ _ rfl
    have down : ∀ {b : Addr} {o : Obj}, s₁.heap.get? b = some o → (∀ xs n, o.data ≠ .seq xs n) → o.data ≠ .fields #[] → (hidT s₁.heap H).get? b = some o := fun {b o} z n1 n2 => hidT_get z (free z n1 n2)
    have ns_down : ∀ {b : Addr} {m : Str → Option Value}, s₁.heap.Ns b m → (hidT s₁.heap H).Ns b m := fun {b m} ⟨o, es, ep, z, d, r⟩ => ⟨o, es, ep, down z (fun xs n i => by rw [d] at i; cases i) (fun i => by rw [d] at i; cases i), d, r⟩
    have kin2 : K.In (hidT s₁.heap H) := fun b o z => by
      refine hidT_get (kin b o z) ?_
      cases y : H b with
      | none => rfl
      | some u =>
        exfalso
        rcases hOnly b u y with i | ⟨rfl, _⟩
        · rw [(tab_at b i).2.1] at z
          cases z
        · rw [offK (by rw [y]; simp)] at z
          cases z
    have md : L2.Mod K mg (hidT s₁.heap H) := by
      obtain ⟨mc, l1, l2⟩ := nlim
      exact ⟨kin2, ns_down gns, ⟨mb, ns_down bns, bbo⟩, mc, ns_down l1, l2⟩
    have tbs : ∀ p ∈ cs, TabB (hidT s₁.heap H) mg p.1 p.2 := by
      intro p hp
      have tp := tabs p hp
      constructor
      · obtain ⟨o, us, file, tf, flags, tg, inF, text, tt, g1, g2, g3, g4, g5, g6, g7, g8, g9, g10⟩ := heads p hp
        refine ⟨o, us, file, tf, flags, tg, inF, text, tt, down g1 (fun xs n i => ?_) (fun i => ?_), g2, g3, g4, g5, g6, g7, g8, g9, g10⟩
        · rw [g3] at i; cases i
        · rw [g3] at i; cases i; simp at g4
      · obtain ⟨bm, om, q1, q2, q3, q4, q5, q6⟩ := bmod
        refine ⟨bm, om, q1, q2, ?_, ?_, down q3 (fun xs n i => ?_) (fun i => ?_), q4, q5, q6⟩
        · rintro rfl
          obtain ⟨o, es, ep, z, d, _⟩ := gns
          rw [z] at q3
          cases q3
          rw [q6] at d
          cases d
        · rintro rfl
          rw [tp] at q3
          cases q3
          cases q6
        · rw [q6] at i; cases i
        · rw [q6] at i; cases i
      · intro z
        obtain ⟨o, es, ep, y, d, _⟩ := gns
        rw [z, tp] at y
        cases y
        cases d
    have env : Env0 P w K mg (hidT s₁.heap H) callerA [] s₁ H := ⟨rfl, md, fun b o z => of_hidT z, Nat.le_of_eq (hidT_size _ _), trivial, fun b z => absurd (show b ∈ ([] : List Addr) from z) (by simp), hk, .of_eq gens⟩
    refine codeAny_mono ((F _ kin2 (ns_down gns) tbs).run callerA [] s₁ H ⟨[.ref a], []⟩ [.ref a] [.ref a] _ _ room rfl env (bind s₁ (.ref a)) (.cons rfl .nil) (prom H tabH sq)) fun out s2 fin => ?_
    cases out with
    | error e => exact (show False from fin).elim
    | ok fl =>
      cases fl with
      | next => exact (show False from fin).elim
      | brk => exact (show False from fin).elim
      | cont => exact (show False from fin).elim
      | ret u =>
        obtain ⟨v, H2, eos, bare, un, hk2, rv, q⟩ := fin
        obtain rfl : v = .bl true := q
        obtain rfl : u = Value.bool true := rv
        have more : ∀ b ∈ ts, ∃ ys : Array Value, s2.heap.get? b = some { cls := .none, data := .fields ys } := fun b hb => by
          obtain ⟨ys, z⟩ := un.tbls b #[] (hTb b hb)
          exact ⟨_, hk2 b _ z⟩
        have rest : ∀ b o, b ∉ ts → s₁.heap.get? b = some o → s2.heap.get? b = some o := fun b o nb z => by
          cases y : H b with
          | none => exact un.keep b o z y (fun i => absurd (show b ∈ ([] : List Addr) from i) (by simp)) (by simp)
          | some t =>
            rcases hOnly b t y with i | ⟨_, o2, ys, rfl⟩
            · exact absurd i nb
            · obtain ⟨g1, _⟩ := hk b _ y
              obtain ⟨g2, _⟩ := hk2 b _ (un.frzs b o2 _ y)
              rw [z] at g1
              cases g1
              exact g2
        refine ⟨rfl, ⟨fun b o z => ?_, fun b o z => ?_⟩, eos, bare⟩
        · by_cases i : b ∈ ts
          · obtain ⟨e1, _, p, hp, rfl⟩ := tab_at b i
            obtain ⟨ys, e2⟩ := more _ i
            rw [e1] at z
            cases z
            exact .inr (.inl ⟨((heads p hp).tab e1).isCodeTable, rfl, #[], ys, rfl, by rw [Array.empty_append]; exact e2⟩)
          · exact .inl (rest b o i z)
        · by_cases i : b ∈ ts
          · obtain ⟨ys, e2⟩ := more b i
            exact ⟨_, e2⟩
          · exact ⟨o, rest b o i z⟩
  cases lk : K.lookup a with
  | some o =>
    have z := kin a o lk
    rw [ob] at z
    cases z
    obtain ⟨H0, at_t, off⟩ : ∃ H0 : Hp, (∀ b ∈ ts, H0 b = some (.tbl #[])) ∧ ∀ b, b ∉ ts → H0 b = none := ⟨fun b => if b ∈ ts then some (.tbl #[]) else none, fun b i => if_pos i, fun b i => if_neg i⟩
    refine main H0 at_t (fun b u z => ?_) (.inr ⟨_, vs.toArray, _, lk, rfl, rfl, rfl, by rw [List.size_toArray, same]; exact small, by simpa using rel⟩) (fun b u z => ?_) fun z => absurd (off a a_off) z
    · by_cases i : b ∈ ts
      · exact .inl i
      · rw [off b i] at z; cases z
    · by_cases i : b ∈ ts
      · rw [at_t b i] at z
        cases z
        exact (tab_at b i).1
      · rw [off b i] at z; cases z
  | none =>
    obtain ⟨H0, at_a, at_t, off⟩ : ∃ H0 : Hp, H0 a = some (.frz { cls := .type "list", data := .seq vs.toArray } (.lst (ns.map V.int))) ∧ (∀ b ∈ ts, H0 b = some (.tbl #[])) ∧ ∀ b, b ≠ a → b ∉ ts → H0 b = none := by
      refine ⟨fun b => if b ∈ ts then some (.tbl #[]) else if b = a then some (.frz { cls := .type "list", data := .seq vs.toArray } (.lst (ns.map V.int))) else none, ?_, fun b i => if_pos i, fun b i j => ?_⟩
      · show (if a ∈ ts then _ else _) = _
        rw [if_neg a_off, if_pos rfl]
      · show (if b ∈ ts then _ else _) = _
        rw [if_neg j, if_neg i]
    refine main H0 at_t (fun b u z => ?_) (.inl (.inr ⟨_, at_a⟩)) (fun b u z => ?_) fun _ => lk
    · by_cases i : b ∈ ts
      · exact .inl i
      · by_cases e : b = a
        · subst e
          rw [at_a] at z
          cases z
          exact .inr ⟨rfl, _, _, rfl⟩
        · rw [off b e i] at z; cases z
    · by_cases i : b ∈ ts
      · rw [at_t b i] at z
        cases z
        exact (tab_at b i).1
      · by_cases e : b = a
        · subst e
          rw [at_a] at z
          cases z
          exact ⟨ob, by rw [List.length_map]; exact small, vs, _, rel, ob⟩
        · rw [off b e i] at z; cases z
theorem walkGT {l : PySem.W.OpenLaw} {n k : Nat} {q : Program} {loose : List Str} {XP : (Str → Option Value) → Heap → Prop} {YP : World → Heap → Prop} {d : DefRec} {x : Str}
    (most : l.most = some n) (le : n ≤ sizeLine) (nodf : d.params.defaults = []) (room : Room k callerA)
    (F : ∀ (w : World) (mg : Str → Option Value) (fa : Addr) (h : Heap), YP w h → h.Ns mainGlobals mg → mg d.name = some (.ref fa) →
      ∃ (K : PySem.W.Frag) (fd : FuncData) (sp : Sp) (cs : List (Addr × Addr)), K.In h ∧ (∀ p ∈ cs, h.get? p.2 = some { cls := .none, data := .fields #[] }) ∧ (∀ p ∈ cs, K.lookup p.2 = none) ∧ (∀ p ∈ cs, PySem.W.CodeHd h p.1 p.2) ∧ (∀ (s : Shared) (u : Value), BindsTo s fd ⟨[u], []⟩ [(x, u)]) ∧
        (∀ (H : Hp) (a : Addr) (ns : List Int), ns.length ≤ n → (∀ p ∈ cs, H p.2 = some (.tbl #[])) → SqL K H a (ns.map V.int) → sp [.ref a] H (fun v _ => v = .bl true) fun _ _ _ => False) ∧
        ∀ base : Heap, K.In base → base.Ns mainGlobals mg → (∀ p ∈ cs, TabB base mg p.1 p.2) → FnG l.prog w K mg base k fa fd [x] sp) :
    PySem.W.WalkO q loose XP YP l.row.toRowW d [] (fun f vs => PySem.call f vs) := by
  refine Att.attach_call most nodf fun w s0 s1 mg mb fa o pm cd doc a vs ns G Y _ _ _ named obj iar len gens => ?_
  obtain ⟨K, fd, sp, cs, kin, e1, e2, e3, bind, prom, ok⟩ := F w mg fa _ Y G.T.g named
  exact lawGT kin G.T.g G.T.b G.T.builtins G.T.nolimit gens e1 e2 e3 G.T.bmain obj iar (Nat.le_trans len le) room ok bind fun H tb sq => prom H a ns len tb sq
end L2G
set_option maxHeartbeats 1000000
namespace DL
open PySem PySem.Spec PyProof.Rows L2 LamX
open PySem.W (Frag)
def LwC (c : C) (T : List (Addr × PySem.Str)) : Prop := (∃ m, c.M = some m ∧ m.T = T ∧ m.kd = none) ∧ NoTs c.H0
end DL
namespace L2G
open PySem PySem.Spec PyProof.Rows L2
theorem okGT {P : Program} {w : World} {K : PySem.W.Frag} {mg : Str → Option Value} {base : Heap} {x qual : Str} {st : Stmt} {p : Str × Option Str} {fd : FuncData} {N ps : List Str} {k : Nat} {sp : Sp} (F : Fun K x qual st (He.fAd K p) fd) (S : FnScope N ps (defScope st)) (ln : ∀ vs H Q E, sp vs H Q E → vs.length = ps.length)
    (bd : ∀ (cdv : Value) (A : Around) (ou : List Env) (s : Shared) (H : Hp) (vs : List V) (Q : VK) (E : XK), cdv = .ref (He.codeOf K p) → Room k (A.deeper (envOfC qual (defScope st) s.heap.objs.size (He.fAd K p) cdv)) → (A.deeper (envOfC qual (defScope st) s.heap.objs.size (He.fAd K p) cdv)).guards = some [] → sp vs H Q E →
      ∃ t, PSs (cxOf CX0 P w K mg base N qual (defScope st) (He.fAd K p) cdv A ou s H E).nox (defBody st) t ∧ t { nx := fun _ H' => Q .non H', rt := Q } (L2.start N vs) H) : FnG P w K mg base (k + 1) (He.fAd K p) fd ps sp := by
  obtain ⟨oc, od, kV, doc, pm, an, cdv, ct, osl, rfl, lk, cdok⟩ := F.ex
  obtain ⟨cc, rfl⟩ := He.codeIn_ref cdok
  have ecc : He.codeOf K p = cc := He.codeOf_eq lk rfl
  refine ⟨ln, fun A ou s H ar us vs Q E room gu en bi rv hs => ?_⟩
  have lv := ln _ _ _ _ hs
  have inK : K.In s.heap := en.mod.kin.keeps fun a u z => (en.bs a u z).1
  have nlim : s.heap.NoLimit := en.mod.nolimit.keeps fun a u z => (en.bs a u z).1
  have kinds : ∀ y ∈ ps.zip us, (defScope st).names.lookup y.1 = some .local ∨ ((defScope st).names.lookup y.1 = some .cell ∧ ((cellsFrom (s.heap.objs.size + 1) (defScope st).names []).lookup y.1).isSome = true) := by
    rintro ⟨nm, vl⟩ hy
    exact (S.par nm (List.of_mem_zip hy).1).imp id fun z => ⟨z, PySem.W.cellsFrom_some _ _ _ (.inl z)⟩
  refine codeAny_call_function room.depth (inK _ _ lk) rfl S.co S.gen rfl (PySem.W.codeRec_of inK cdok) (bi _ _ _ _ ?_)
  refine wpAny_newFunctionEnv_cells S.kind kinds fun env same s1 ic => ?_
  subst same
  refine ⟨nlim.keeps ic.toInCall.keep, codeAny_func ?_⟩
  obtain ⟨t, walk, ends⟩ := bd (.ref cc) A ou s H vs Q E (by rw [ecc]) (room.deeper _) gu hs
  have I0 := inv_start (CX := CX0) (E := E) S room.hd en lv rv ic
  refine wpAny_mono (walk.nox.run [] s1 (L2.start N vs) H _ I0 ends) (fun fl s2 hfl => ?_) fun _ _ z => z
  cases fl with
  | ret u =>
    obtain ⟨v, τ, H2, J, r2, q2⟩ := hfl
    exact ⟨v, H2, J.os, J.bare, J.base, J.hok, r2, q2⟩
  | next =>
    obtain ⟨τ, H2, J, q2⟩ := hfl
    exact ⟨V.non, H2, J.os, J.bare, J.base, J.hok, rfl, q2⟩
  | brk =>
    obtain ⟨_, _, _, q2⟩ := hfl
    exact q2.elim
  | cont =>
    obtain ⟨_, _, _, q2⟩ := hfl
    exact q2.elim
end L2G
set_option maxHeartbeats 1000000
namespace BW
open PySem L2 DL
theorem wd_let {T : Mat} : ∀ (f : Nat) {r : List Int}, r.length = T.length → Wd T.length (wd T f r).1
  | 0, r, _ => fun a ha => (nomatch ha)
  | f + 1, r, hr => by
    cases e : fall r with
    | nil => rw [wd_nil e]; exact fun a ha => (nomatch ha)
    | cons a q =>
      rw [wd_cons e]
      obtain ⟨i, ea, hi, _⟩ := fall_mem (by rw [e]; exact List.mem_cons_self : a ∈ fall r)
      intro z hz
      rcases List.mem_cons.mp hz with rfl | hz
      · omega
      · exact wd_let f (press_length T r (ix a)) z hz
theorem fall_one1 (T : Mat) : fall (one T) = [] := by
  cases e : fall (one T) with
  | nil => rfl
  | cons a q =>
    obtain ⟨i, _, hi, h⟩ := fall_mem (by rw [e]; exact List.mem_cons_self : a ∈ fall (one T))
    unfold one at hi h
    rw [List.length_replicate] at hi
    rw [List.getD_eq_getElem?_getD, List.getElem?_replicate, if_pos hi] at h
    exact absurd h (by decide)
end BW
set_option maxHeartbeats 1000000
namespace BW
open PySem L2 DL
def bk (w : List Int) : Deed → Deed
  | .inn k _ => .out k
  | .out k => .inn k (w.getD k 0)
  | .turn k => .turn k
end BW
set_option maxHeartbeats 1000000
namespace DL
open PySem L2
open PySem.W (Frag)
section
variable {P : Program} {w : World} {K : Frag} {mg : PySem.Str → Option Value} {base : Heap} {k : Nat} {f : Addr} {fd : FuncData} {ps : List PySem.Str} {hm : Bool} {sp : DSp} {spX : DSpX} {x : PySem.Str}
theorem calm_ok (F : FnOk P w K mg base (L2.CX P w) k f fd ps (spDX K hm spX)) (h : ∀ ds k R, sp ds k R → spX ds k R (fun _ _ => False)) : FnOk P w K mg base CX0 k f fd ps (spD K hm sp) := by
  have key : ∀ vs H Q E, spD K hm sp vs H Q E → spDX K hm spX vs H Q (fun _ _ _ => False) := fun vs H Q E ⟨M, X0, k, ds, ws, R, h1, a, h2, h3⟩ => ⟨M, X0, k, ds, ws, R, fun _ _ => False, h1, a, h _ _ _ h2, h3, fun _ _ q => q.elim⟩
  refine ⟨fun vs H Q E q => F.len _ _ _ _ (key _ _ _ _ q), fun A outer s H args us vs Q E hr he hb hv hs => ?_⟩
  refine codeAny_mono (F.run A outer s H args us vs Q _ hr he hb hv (key _ _ _ _ hs)) fun r s' q => ?_
  cases r with
  | ok o => cases o <;> exact q
  | error e =>
    obtain ⟨_, _, _, _, _, _, _, _, _, _, _, _, z⟩ := (show L2.CX P w outer H s (fun _ _ _ => False) e s' from q)
    exact z.elim
theorem CalX.calm (F : CalX P w K mg base k x spX) (h : ∀ ds k R, sp ds k R → spX ds k R (fun _ _ => False)) : CalD P w K mg base k x false sp := by
  obtain ⟨f, fd, ps, G, hm, kp, b⟩ := F.ex
  exact ⟨f, fd, ps, calm_ok G h, hm, kp, b⟩
end
end DL
namespace BW
open PySem L2 DL
def fm (n : Nat) (f : Nat → Nat → Int) : Mat := (List.range n).map fun i => (List.range n).map fun j => f i j
theorem fm_len (n : Nat) (f : Nat → Nat → Int) : (fm n f).length = n := by unfold fm; rw [List.length_map, List.length_range]
theorem fm_row {n : Nat} {f : Nat → Nat → Int} {i : Nat} (h : i < n) : (fm n f).getD i [] = (List.range n).map fun j => f i j := by unfold fm; rw [getD_range h]
theorem fm_at {n : Nat} {f : Nat → Nat → Int} {i j : Nat} (hi : i < n) (hj : j < n) : at2 (fm n f) i j = f i j := by
  unfold at2
  rw [fm_row hi, getD_range hj]
def fsw (f : Nat → Nat → Int) (a b : Nat) (v : Int) : Nat → Nat → Int := fun i j => if (i = a ∧ j = b) ∨ (i = b ∧ j = a) then v else f i j
theorem fm_sw {n : Nat} {f : Nat → Nat → Int} {a b : Nat} {v : Int} (ha : a < n) (hb : b < n) (ne : a ≠ b) : ((fm n f).set a (((fm n f).getD a []).set b v)).set b (((fm n f).getD b []).set a v) = fm n (fsw f a b v) := by
  have r1 : ((fm n f).getD a []).set b v = (List.range n).map fun j => fsw f a b v a j := by
    rw [fm_row ha]
    refine set_range fun j hj => ?_
    unfold fsw
    by_cases e : j = b
    · rw [if_pos e, if_pos (.inl ⟨rfl, e⟩)]
    · rw [if_neg e, if_neg (by omega)]
  have r2 : ((fm n f).getD b []).set a v = (List.range n).map fun j => fsw f a b v b j := by
    rw [fm_row hb]
    refine set_range fun j hj => ?_
    unfold fsw
    by_cases e : j = a
    · rw [if_pos e, if_pos (.inr ⟨rfl, e⟩)]
    · rw [if_neg e, if_neg (by omega)]
  rw [r1, r2]
  show (((List.range n).map fun i => (List.range n).map fun j => f i j).set a _).set b _ = _
  rw [set_range (g' := fun i => if i = a then (List.range n).map (fun j => fsw f a b v a j) else (List.range n).map (fun j => f i j)) (fun j _ => rfl)]
  refine set_range fun i hi => ?_
  by_cases e : i = b
  · rw [if_pos e, e]
  · rw [if_neg e]
    by_cases e2 : i = a
    · rw [if_pos e2, e2]
    · rw [if_neg e2]
      refine List.map_congr_left fun j hj => ?_
      unfold fsw
      rw [if_neg (by omega)]
structure S8 (m : Mc) (n : Nat) (way : Int) (p : Addr) (σ : L2.St) : Prop where
  len : σ.length = 8
  e0 : σ[0]? = some (some (.ref m.pm))
  e2 : σ[2]? = some (some (.int n))
  e3 : σ[3]? = some (some (.int way))
  e4 : σ[4]? = some (some (.ref p))
  kd : m.kd = none
theorem S8.set {m : Mc} {n : Nat} {way : Int} {p : Addr} {σ : L2.St} (h : S8 m n way p σ) {i : Nat} (hi : 5 ≤ i) (v : Option V) : S8 m n way p (σ.set i v) :=
  ⟨by rw [List.length_set]; exact h.len, by rw [List.getElem?_set_ne (by omega)]; exact h.e0, by rw [List.getElem?_set_ne (by omega)]; exact h.e2, by rw [List.getElem?_set_ne (by omega)]; exact h.e3, by rw [List.getElem?_set_ne (by omega)]; exact h.e4, h.kd⟩
end BW
namespace BW
open PySem L2 DL
theorem mv_k {T : Mat} {w v : List Int} {e : Deed} (h : mv T w e = some v) (f : e.fits T.length w.length) : e.k ≤ w.length := by
  cases e with
  | inn k a => exact f.1
  | out k =>
    show k ≤ _
    rw [mv_out] at h
    split at h
    · rename_i c; omega
    · cases h
  | turn k =>
    show k ≤ _
    rw [mv_turn] at h
    split at h
    · rename_i c; omega
    · cases h
end BW
set_option maxHeartbeats 1000000
namespace BW
open PySem L2 DL
abbrev badWord (d : D) : D := .exc "BadWord" ["place"] [d]
abbrev tooGreat (z : Int) : D := .exc "TooGreat" ["most"] [.int z]
def BadW (n : Nat) (d x : D) : Prop :=
  (d.items = none ∧ d.tname.isSome = true ∧ x = badWord .non) ∨
  (∃ xs, d.items = some xs ∧ 60 < xs.length ∧ x = tooGreat 60) ∨
  ∃ pre y post, d.items = some (pre ++ y :: post) ∧ (pre ++ y :: post).length ≤ 60 ∧ (∀ z ∈ pre, z.tname.isSome = true ∧ D.isL n z = true) ∧ y.tname.isSome = true ∧ D.isL n y = false ∧ x = badWord (.int pre.length)
end BW
set_option maxHeartbeats 1000000
namespace L2
open PySem PySem.Spec PyProof.Rows HT
end L2
namespace DL
open PySem L2
open PySem.W (Frag)
abbrev dStar (t : DE) (u : DA) : DA := fun s Q => t s fun d k => ∃ ds, d.items = some ds ∧ u (s.at k) fun es k' => Q (ds ++ es) k'
section
variable {X : Cx} {c : C}
theorem pad_star (hK : c.K = X.K) {e : Expr} {es : List Expr} {p : Pos} {t : DE} {u : DA} (ha : PE X e (LE c t)) (hr : PA X es (LA c u)) (hs : starEach (.Starred e p :: es) X.env = (true, eval e X.env) :: starEach es X.env := by rfl) : PA X (.Starred e p :: es) (LA c (dStar t u)) :=
  (StX.pa_star ha hr hs).weak fun σ H Q ⟨s, R, rp, q, f⟩ => by
    refine ⟨s, _, rp, q, fun d k ⟨ds, hd, hu⟩ v H1 r1 a1 e1 => ?_⟩
    obtain ⟨a, vs, rfl, h, r⟩ := e1.items hd
    refine ⟨a, vs, rfl, ?_, s.at k, _, r1, hu, fun es k2 h2 us H2 r2 a2 e2 => f _ k2 h2 _ H2 r2 (a1.trans a2) ((r.mono a2.sub).app e2)⟩
    have z := sq_all (wo_sub _ _) h
    exact (hK ▸ z).symm
end
end DL
set_option maxHeartbeats 1000000
set_option maxHeartbeats 1000000
set_option maxHeartbeats 1000000
set_option maxHeartbeats 1000000
set_option maxHeartbeats 1000000
namespace BW
open PySem L2 DL
def spX_check_led : DSpX := fun ds k R E => ∃ d xs, ds = [d] ∧ d.items = some xs ∧ ((16 < xs.length ∧ E (tooGreat 16) k) ∨ (xs.length ≤ 16 ∧ R .non k))
end BW
namespace BW
open PySem L2 DL
open PySem.W (Frag)
theorem tupIs_ok {K : Frag} {v : Value} {ns : List Int} (h : tupIs K v ns = true) : ∃ b, v = .ref b ∧ ∀ H, SqT K H b (ns.map V.int) := by
  cases v with
  | ref b =>
    refine ⟨b, rfl, fun H => ?_⟩
    unfold tupIs at h
    cases q : K.lookup b with
    | none => simp only [q] at h; cases h
    | some o =>
      obtain ⟨oc, od, dt, osl⟩ := o
      simp only [q] at h
      cases oc with
      | type c =>
        cases dt with
        | seq its n =>
          obtain ⟨h1, h2⟩ := Bool.and_eq_true_iff.mp (show (decide (c = "tuple") && (decide (its.size ≤ sizeLine) && He.relAll (ns.map V.int) its.toList)) = true from h)
          obtain ⟨h3, h4⟩ := Bool.and_eq_true_iff.mp h2
          exact .inr ⟨_, its, n, q, congrArg Value.type (of_decide_eq_true h1), rfl, of_decide_eq_true h3, He.relAll_ok h4⟩
        | _ => cases h
      | _ => cases dt <;> cases h
  | _ => cases h
theorem entB_ok {P : Program} {w : World} {K : Frag} : ∀ {es : List DictEntry} {kvs : List (Int × List Int)}, entB K es kvs = true →
    (∀ e ∈ es, ∃ k, (intKind P w).is k e.key = true ∧ e.hash = (intKind P w).hash k) ∧
    ∃ (us : List (Int × Value)) (vs : List (Int × V)), Pairs (intKind P w) es us ∧ us.map (·.1) = kvs.map (·.1) ∧ KV vs us ∧ ∀ H, KvA K H vs (kvs.map fun q => (q.1, tI q.2))
  | [], [], _ => ⟨fun _ h => (nomatch h), [], [], .nil, rfl, .nil, fun _ => .nil⟩
  | [], _ :: _, h => by cases h
  | _ :: _, [], h => by cases h
  | e :: es, (k, ns) :: r, h => by
    obtain ⟨h1, h2⟩ := Bool.and_eq_true_iff.mp (show ((match e.key with | .int j _ => decide (j = k) && decide (e.hash = hashInt k) | _ => false) && (tupIs K e.val ns && entB K es r)) = true from h)
    obtain ⟨h3, h4⟩ := Bool.and_eq_true_iff.mp h2
    obtain ⟨ih1, us, vs, ih2, ih3, ih4, ih5⟩ := entB_ok (P := P) (w := w) h4
    obtain ⟨b, hb, hs⟩ := tupIs_ok h3
    have key : (intKind P w).is k e.key = true ∧ e.hash = (intKind P w).hash k := by
      cases q : e.key with
      | int j t =>
        rw [q] at h1
        obtain ⟨h5, h6⟩ := Bool.and_eq_true_iff.mp (show (decide (j = k) && decide (e.hash = hashInt k)) = true from h1)
        have h5 := of_decide_eq_true h5
        subst h5
        exact ⟨by simp [intKind, Value.isInt], of_decide_eq_true h6⟩
      | _ => rw [q] at h1; cases h1
    refine ⟨fun x hx => ?_, (k, .ref b) :: us, (k, .ref b) :: vs, ?_, by rw [List.map_cons, List.map_cons, ih3], .cons ⟨rfl, rfl⟩ ih4, fun H => .cons (.tup (hs H) (RlA.ints ns)) (ih5 H)⟩
    · rcases List.mem_cons.mp hx with rfl | hx
      · exact ⟨k, key⟩
      · exact ih1 x hx
    · rw [← hb]
      exact .cons key.1 rfl ih2
theorem kdB_ok {P : Program} {w : World} {K : Frag} {mg : PySem.Str → Option Value} {x : PySem.Str} {kvs : List (Int × List Int)} (h : kdB K x kvs = true) (hm : mg x = some (.ref (He.ga K x))) (nd : (kvs.map (·.1)).Nodup) : KdAt P w K mg x (kvs.map fun q => (q.1, tI q.2)) := by
  unfold kdB at h
  cases q : K.lookup (He.ga K x) with
  | none => simp only [q] at h; cases h
  | some o =>
    obtain ⟨oc, od, dt, osl⟩ := o
    simp only [q] at h
    cases oc with
    | type c =>
      cases od with
      | none =>
        cases dt with
        | dict es n =>
          obtain ⟨h1, h2⟩ := Bool.and_eq_true_iff.mp (show (decide (c = "dict") && (osl.isEmpty && (!(He.ga K x == sysModules) && entB K es.toList kvs))) = true from h)
          obtain ⟨h3, h4⟩ := Bool.and_eq_true_iff.mp h2
          obtain ⟨h5, h6⟩ := Bool.and_eq_true_iff.mp h4
          obtain ⟨k1, us, vs, k2, k3, k4, k5⟩ := entB_ok (P := P) (w := w) h6
          have e1 : c = "dict" := of_decide_eq_true h1
          subst e1
          refine ⟨_, us, vs, hm, by simpa using h5, fun hp hK => ⟨_, es, n, hK _ _ q, ⟨rfl, rfl, Array.isEmpty_iff.mp h3⟩, rfl, fun e he => k1 e (by simpa using he), k2, by rw [k3]; exact nd⟩, k4, k5⟩
        | _ => cases h
      | some b => cases dt <;> cases h
    | _ => cases od <;> cases dt <;> cases h
end BW
set_option maxHeartbeats 1000000
namespace BW
open PySem L2 DL
open PySem.W (Frag)
theorem Rep.root {c : C} {s : S} {σ : L2.St} {H : Hp} {ow : List Nat} (r : Rep c s σ H) (h : c.X0 = []) : Rep ⟨c.K, c.M, [], fun _ => none, ow⟩ s σ H := by
  refine ⟨fun a o e => ?_, fun a ha => (nomatch ha), fun a ha => (nomatch ha), r.xm, r.xs, r.m, fun i x e => ?_, r.apart, r.len, tbk_none (fun _ _ z => nomatch z) (fun _ _ h => by rcases h with h | ⟨_, h⟩ <;> cases h), r.xt⟩
  · have := (wo_all e).2.1
    cases this
  · have q := r.slot i x e
    cases x with
    | own p ds =>
      obtain ⟨e', h1, h2, h3, vs, h4, h5⟩ := q
      exact ⟨e', h1, fun z => (nomatch z), rfl, vs, h4, h5⟩
    | no => exact q
    | dat d => exact q
    | mst => exact q
    | kds N Z => exact q
    | scr ns => exact q
end BW
set_option maxHeartbeats 1000000
set_option autoImplicit false
namespace DL
open PySem PySem.Spec PyProof.Rows L2
open PySem.W (Frag)
end DL
set_option autoImplicit false
set_option maxHeartbeats 1000000
namespace BW
open PySem L2 DL
def TpB (T : Mat) (w v : List Int) : Prop := row T w = row T v ∧ (wd T 60 (row T w)).1.length = w.length ∧ (wd T 60 (row T v)).1.length = v.length
theorem sh_iff {T : Mat} (ht : Tab T) {w : List Int} (hw : Wd T.length w) (hl : w.length ≤ 60) : (wd T 60 (row T w)).1.length = w.length ↔ Sh T w := by
  obtain ⟨k, h, hk⟩ := LN.has hw
  have e := len60 ht hw h (by omega)
  rw [e]
  constructor
  · intro z
    show LN T w w.length
    rw [← z]; exact h
  · exact fun z => h.uniq z
theorem Tp.b {T : Mat} (ht : Tab T) {w v : List Int} (hl : w.length ≤ 60) (hm : v.length ≤ 60) (h : Tp T w v) : TpB T w v := ⟨h.al, (sh_iff ht h.hw hl).mpr h.sw, (sh_iff ht h.hv hm).mpr h.sv⟩
end BW
set_option maxHeartbeats 1000000
namespace BW
open PySem L2 DL
theorem lw_row2 {T : Mat} (ht : Tab T) {w : List Int} (hw : Wd T.length w) (hl : w.length ≤ 60) : row T (lw T w) = row T w ∧ Wd T.length (lw T w) ∧ (lw T w).length ≤ w.length ∧ Sh T (lw T w) := by
  have b := (wd_back ht (wd_rev hw) (by rw [List.length_reverse]; exact hl)).2
  rw [List.reverse_reverse] at b
  obtain ⟨n, hn, hn2⟩ := LN.has hw
  have e1 : (lw T w).length = n := (wd_len ht n (f := 60) (wd_rev hw) (LN.rev ht hw hn) (by omega)).1
  have wl : Wd T.length (lw T w) := wd_let 60 (row_length _ _)
  refine ⟨b, wl, by omega, ?_⟩
  show LN T (lw T w) (lw T w).length
  rw [e1]
  exact hn.cong hw wl b.symm
theorem Tp.symm {T : Mat} {w v : List Int} (h : Tp T w v) : Tp T v w := ⟨h.hv, h.hw, h.sv, h.sw, h.al.symm⟩
theorem Tp.refl {T : Mat} {w : List Int} (hw : Wd T.length w) (hs : Sh T w) : Tp T w w := ⟨hw, hw, hs, hs, rfl⟩
theorem Tp.turn {T : Mat} (ht : Tab T) {w v u : List Int} {k : Nat} (h : Tp T w v) (hm : mv T v (.turn k) = some u) : Tp T w u := by
  have wu : Wd T.length u := mv_wd (e := .turn k) h.hv trivial hm
  have ru : row T u = row T v := mv_row ht (e := .turn k) h.hv trivial hm
  have lu := Ws.all.mv_turn_len0 hm
  refine ⟨h.hw, wu, h.sw, ?_, h.al.trans ru.symm⟩
  show LN T u u.length
  rw [lu]
  exact h.sv.cong h.hv wu ru.symm
end BW
namespace PySem
section
variable {prog : Program} {w : World} {A : Around} {E : Value → Shared → Prop} {s : Shared} {l : Addr} {xs : Array (Int × Tok)}
theorem min_intTupX {Q : Value → Shared → Prop} (hh : A.handled = none) (hl : s.heap.IsTuple l (intItems xs)) (hne : 0 < xs.size)
    (h : ∀ v h' tk, (intItems xs)[argBest (fun i j => decide (numAt xs i < numAt xs j)) (xs.size - 1)]? = some v → (∀ b o, s.heap.get? b = some o → h'.get? b = some o) → Q v { s with heap := h', toks := tk }) :
    wpAny (model prog w) A (call (.builtin "min") [.ref l]) Q E s := by
  have hlt : l < s.heap.objs.size := by obtain ⟨_, e, _⟩ := hl; exact Heap.lt_size e
  refine call_min_walk (wpAny_pyIter_tuple hl ?_)
  refine ⟨_, [_, l], [_], _, _, _, _, rfl, Walks.tuple (A := A.in1) hh _ l (Nat.ne_of_lt hlt) (intItems xs), ⟨⟨_, Heap.get?_push_size _ rfl, rfl, rfl⟩, hl.push _⟩, fun c hc => ?_, by simpa [intItems] using hne, CmpOf.ints_lt (numAt xs) (fun _ _ => intItems_at), fun v h' tk hP hk => ?_⟩
  · show c < (s.heap.push _).objs.size
    rw [Heap.size_push]
    rcases List.mem_cons.mp hc with rfl | hc
    · exact Nat.lt_succ_self _
    · rcases List.mem_cons.mp hc with rfl | hc
      · exact Nat.lt_succ_of_lt hlt
      · cases hc
  · refine h v h' tk (by simpa [intItems] using hP) fun c o e => hk c o (fun hm => ?_) (Heap.get?_push_of_some _ e)
    rcases List.mem_cons.mp hm with e1 | hm
    · exact absurd (e1 ▸ Heap.lt_size e) (Nat.lt_irrefl _)
    · cases hm
end
end PySem
namespace L2
open PySem
open PyProof.Rows (IntsAre)
section
variable {prog : Program} {w : World} {A : Around} {E : Value → Shared → Prop} {s : Shared} {l : Addr} {its : List Value} {ns : List Int} {Q : Value → Shared → Prop}
theorem min_rawTX (hh : A.handled = none) (hl : s.heap.IsTuple l its.toArray) (hi : IntsAre its ns) (hne : 0 < ns.length)
    (h : ∀ h' tk M t', (∀ b o, s.heap.get? b = some o → h'.get? b = some o) → M ∈ ns → (∀ a, a ∈ ns → M ≤ a) → Q (.int M t') { s with heap := h', toks := tk }) : wpAny (model prog w) A (call (.builtin "min") [.ref l]) Q E s := by
  obtain ⟨xs, e⟩ := hi.allInts.items
  have hn : numsOf (intItems xs).toList = ns := by rw [← e]; exact hi.numsOf
  rw [nums_intItems] at hn
  subst hn
  rw [e] at hl
  have hsz : 0 < xs.size := by simpa using hne
  refine PySem.min_intTupX hh hl hsz fun v h' tk hv hk => ?_
  obtain ⟨t, rfl⟩ := intItems_at hv
  obtain ⟨h1, h2⟩ := argBest_lt (numAt xs) (xs.size - 1)
  refine h h' tk _ t hk ?_ fun a ha => ?_
  · rw [numAt_eq]; exact PySem.getD_mem (by rw [List.length_map, Array.length_toList]; omega)
  · obtain ⟨j, hj, rfl⟩ := mem_getD ha
    rw [List.length_map, Array.length_toList] at hj
    rw [← numAt_eq]; exact h2 j (by omega)
end
def rMinT (K : PySem.W.Frag) : List V → Hp → VK → Prop := fun vs H Q => ∃ (a : Addr) (ns : List Int), vs = [V.ref a] ∧ SqT K H a (ns.map V.int) ∧ 0 < ns.length ∧ ∀ m, m ∈ ns → (∀ y, y ∈ ns → m ≤ y) → Q (.int m) H
theorem cr_minT {X : Cx} (hc : X.calm = true) : CallR X (.builtin "min") (rMinT X.K) := by
  intro pins s σ H vs us Q I r h
  obtain ⟨a, ns, rfl, hs, hne, q⟩ := h
  obtain ⟨its, rv, hl, _⟩ := I.tuple hs
  rw [Vals.ref1 r]
  exact min_rawTX (I.ok.hd hc) hl rv.ints hne fun h' tk m t' hk h1 h2 => ⟨.int _, H, I.kept hk, ⟨_, rfl⟩, q m h1 h2⟩
end L2
namespace DL
open PySem L2
open PySem.W (Frag)
abbrev dMinT (t : DE) : DE := fun s Q => t s fun d k => ∃ ns : List Int, d = .tup (ns.map .int) ∧ 0 < ns.length ∧ ∀ m, m ∈ ns → (∀ y, y ∈ ns → m ≤ y) → Q (.int m) k
section
variable {X : Cx} {c : C} {p pos : Pos}
theorem pd_minT (hK : c.K = X.K) (hm : X.mg "min" = none) (hc : X.calm = true) {e : Expr} {t : DE} (h : PE X e (LE c t)) (hg : Gl X "min" := by rfl) (hs : starEach [e] X.env = (false, eval e X.env) :: starEach [] X.env := by rfl) (hp : (backTo pos (starEach [] X.env)).any (·.1) = false := by rfl) :
    PE X (.Call (.Name "min" p) [e] [] pos) (LE c (dMinT t)) :=
  (pe_callB (cr_minT hc) hg hm (by first | exact PySem.boot_min | exact PyProof.Rows.boot_min | rfl) (pa_cons h pa_nil hs) (he := hs) (hpl := hp)).weak fun σ H Q ⟨s, R, rp, q, f⟩ => ⟨s, _, rp, q, fun d k ⟨ns, h1, hl, h2⟩ v H1 r1 a1 e1 => by
    subst h1
    obtain ⟨a, vs, rfl, h, r⟩ := e1.tupE
    obtain rfl := r.ints_v
    exact ⟨a, ns, rfl, hK ▸ (wo_sub _ _).st h, hl, fun m hm hy => f _ k (h2 m hm hy) _ H1 r1 a1 (.int _)⟩⟩
end
end DL
set_option maxHeartbeats 1000000
set_option maxHeartbeats 1000000
set_option maxHeartbeats 1000000
namespace BW
open PySem L2 DL
def Rn (T : Mat) : List Int → List Deed → List Int → Prop
  | w, [], v => v = w
  | w, e :: r, v => ∃ u, e.fits T.length w.length ∧ mv T w e = some u ∧ (e.isIn = true → w.length + 2 ≤ 30) ∧ Rn T u r v
theorem Rn.snoc {T : Mat} : ∀ {es : List Deed} {w v u : List Int} {e : Deed}, Rn T w es v → e.fits T.length v.length → mv T v e = some u → (e.isIn = true → v.length + 2 ≤ 30) → Rn T w (es ++ [e]) u
  | [], w, v, u, e, h, h1, h2, h3 => by
    have h : v = w := h
    subst h
    exact ⟨u, h1, h2, h3, rfl⟩
  | _ :: r, w, v, u, e, ⟨x, a, b, c, d⟩, h1, h2, h3 => ⟨x, a, b, c, Rn.snoc d h1 h2 h3⟩
theorem Rn.wd {T : Mat} : ∀ {es : List Deed} {w v : List Int}, Rn T w es v → Wd T.length w → Wd T.length v
  | [], w, v, h, hw => by
    have h : v = w := h
    subst h
    exact hw
  | e :: r, w, v, ⟨x, h1, h2, h3, h4⟩, hw => Rn.wd h4 (mv_wd hw h1 h2)
end BW
set_option maxHeartbeats 1000000
namespace BW
open PySem L2 DL
def Ld (T : Mat) : List Int → List Deed → List Int → Prop
  | w, [], v => v = w
  | w, e :: r, v => ∃ u, e.fits T.length w.length ∧ mv T w e = some u ∧ u.length ≤ 60 ∧ Ld T u r v
theorem Ld.app {T : Mat} : ∀ {es fs : List Deed} {w u v : List Int}, Ld T w es u → Ld T u fs v → Ld T w (es ++ fs) v
  | [], fs, w, u, v, h, g => by
    have h : u = w := h
    subst h
    exact g
  | e :: r, fs, w, u, v, ⟨x, a, b, c, d⟩, g => ⟨x, a, b, c, Ld.app d g⟩
end BW
set_option maxHeartbeats 1000000
set_option autoImplicit false
namespace BW
open PySem L2 DL
theorem Rn.ld {T : Mat} : ∀ {es : List Deed} {w v : List Int}, w.length ≤ 60 → Rn T w es v → Ld T w es v
  | [], w, v, _, h => h
  | e :: r, w, v, hl, ⟨x, h1, h2, h3, h4⟩ => by
    have lx := mv_len h2
    have lx2 : x.length ≤ 60 := by
      by_cases c : e.isIn = true
      · rw [if_pos c] at lx
        have := h3 c
        omega
      · rw [if_neg c] at lx
        omega
    exact ⟨x, h1, h2, lx2, Rn.ld lx2 h4⟩
theorem Ld.wd {T : Mat} : ∀ {es : List Deed} {w v : List Int}, Ld T w es v → Wd T.length w → w.length ≤ 60 → Wd T.length v ∧ v.length ≤ 60
  | [], w, v, h, hw, hl => by
    have h : v = w := h
    subst h
    exact ⟨hw, hl⟩
  | e :: r, w, v, ⟨x, h1, h2, h3, h4⟩, hw, hl => Ld.wd h4 (mv_wd hw h1 h2) h3
end BW
set_option maxHeartbeats 1000000
namespace DL
open PySem PySem.Spec PyProof.Rows L2
end DL
set_option maxHeartbeats 1000000
set_option autoImplicit false
namespace BW
open PySem L2 DL
theorem isW.items {d : D} {w : List Int} (h : isW d w) : d.items = some (w.map D.int) := by rcases h with rfl | rfl <;> rfl
end BW
set_option maxHeartbeats 1000000
set_option maxHeartbeats 1000000
namespace BW
open PySem L2 DL
theorem fits_up {e : Deed} {n m m2 : Nat} (h : e.fits n m) (l : m ≤ m2) : e.fits n m2 := by
  cases e with
  | inn k a => exact ⟨Nat.le_trans h.1 l, h.2⟩
  | out k => trivial
  | turn k => trivial
theorem Ld.small {T : Mat} : ∀ {es : List Deed} {w v : List Int}, w.length ≤ 60 → Ld T w es v → ∀ e ∈ es, e.fits T.length 60 ∧ e.k ≤ 60
  | [], w, v, _, _ => fun e he => (nomatch he)
  | d :: r, w, v, hl, ⟨u, a, b, c, q⟩ => fun e he => by
    rcases List.mem_cons.mp he with rfl | he
    · exact ⟨fits_up a hl, Nat.le_trans (mv_k b a) hl⟩
    · exact Ld.small c q e he
end BW
set_option maxHeartbeats 1000000
set_option autoImplicit false
set_option maxHeartbeats 1000000
namespace DL
open PySem PySem.Spec PyProof.Rows L2 LamX
open PySem.W (Frag)
section
variable {P : Program} {w : World} {K : Frag} {mg : PySem.Str → Option Value} {base : Heap}
def TTof (K : Frag) (l : List ((PySem.Str × Option PySem.Str) × PySem.Str)) : List (Addr × PySem.Str) := l.map fun x => ((He.cT K x.1).2, x.2)
end
end DL
namespace DL
open PySem L2 L2G
open PySem.W (Frag)
end DL
set_option maxHeartbeats 1000000
set_option maxHeartbeats 1000000
set_option maxHeartbeats 1000000
set_option maxHeartbeats 1000000
set_option maxHeartbeats 1000000
namespace DL
open PySem PySem.Spec PyProof.Rows L2
open PySem.W (Frag)
abbrev typN : List String := ["NoneType", "bool", "int", "str", "list", "tuple", "dict"]
abbrev typR : List String := ["NoneType", "int", "str", "list", "tuple", "dict"]
structure OwnK (K : Frag) (C f : Addr) : Prop where
  cl : Cls K C
  ca : PySem.W.findIn K (.ref C) "__class__" = some (some (.builtin "object.__class__"))
  cg : PySem.W.specialIn K (.builtin "object.__class__") "__get__" = some (some (.builtin "getset_descriptor.__get__"))
  tk : PySem.W.takesIn K (.builtin "object.__class__") = some true
  ob : PySem.W.mroIn K C (.type "object") = some true
  eq : PySem.W.findIn K (.ref C) "__eq__" = some (some (.ref f))
  fn : PySem.W.isFn K (.ref f) = true
  ne : PySem.W.findIn K (.ref C) "__ne__" = some (some (.builtin "object.__ne__"))
  kt : PySem.W.kitOne K (.ref C) (.ref C) = some true
  kf : ∀ T ∈ typN, PySem.W.kitOne K (.type T) (.ref C) = some false
  sf : ∀ T ∈ typR, PySem.W.subIn K (.ref C) (.type T) = some false
  nf : ∀ T ∈ typN, PySem.W.notFirst K C (.type T) = true
end DL
set_option maxHeartbeats 1000000
namespace DL
open PySem PySem.Spec PyProof.Rows L2
open PySem.W (Frag)
section
variable {K : Frag} {c : C} {C f : Addr} {sp : DSp}
theorem OwnK.ty (O : OwnK K C f) {H : Hp} {v : V} {d : D} (r : Rl K H v d) (h : (∃ n ∈ typN, d.tname = some n) ∨ ∃ ns xs, d = .ins C ns xs) : ∃ t, TyX K H v t ∧ PySem.W.notFirst K C t = true := by
  rcases h with ⟨n, hn, e⟩ | ⟨ns, xs, rfl⟩
  · exact ⟨_, r.ty e, O.nf n hn⟩
  · obtain ⟨a, dx, us, rfl, h2, l, r⟩ := r.insE
    exact ⟨_, .base (.ins h2 O.cl O.ca O.cg O.tk O.ob), by simp [PySem.W.notFirst]⟩
end
end DL
set_option maxHeartbeats 1000000
namespace BW
open PySem L2 DL
theorem okE_rows {f : List Int → D} (h1 : ∀ r, (f r).plain = true) (h2 : ∀ r, PyData.canLay0 (f r).py = true) (h3 : ∀ r, PyData.depth (f r).py = 1) : ∀ T : Mat, plainA (T.map f) = true ∧ PyData.canLayAll0 (pyA (T.map f)) = true ∧ PyData.depthAll (pyA (T.map f)) ≤ 1
  | [] => ⟨rfl, rfl, by show 0 ≤ 1; decide⟩
  | r :: T => by
    obtain ⟨a, b, c⟩ := okE_rows h1 h2 h3 T
    refine ⟨?_, ?_, ?_⟩
    · show ((f r).plain && plainA (T.map f)) = true
      rw [h1, a]; rfl
    · show (PyData.canLay0 (f r).py && PyData.canLayAll0 (pyA (T.map f))) = true
      rw [h2, b]; rfl
    · show max (PyData.depth (f r).py) (PyData.depthAll (pyA (T.map f))) ≤ 1
      rw [h3]; omega
theorem okE_mat {f : List Int → D} (h1 : ∀ r, (f r).plain = true) (h2 : ∀ r, PyData.canLay0 (f r).py = true) (h3 : ∀ r, PyData.depth (f r).py = 1) (T : Mat) : (D.lst (T.map f)).okE = true ∧ (D.tup (T.map f)).okE = true := by
  obtain ⟨a, b, c⟩ := okE_rows h1 h2 h3 T
  have q : (plainA (T.map f) && (PyData.canLayAll0 (pyA (T.map f)) && decide (PyData.depthAll (pyA (T.map f)) + 1 ≤ 64))) = true := by
    rw [a, b, decide_eq_true (by omega)]; rfl
  exact ⟨q, q⟩
end BW
set_option maxHeartbeats 1000000
namespace DL
open PySem PySem.Spec PyProof.Rows L2
open PySem.W (Frag)
structure Bld (K : Frag) (X0 : List Addr) (x C dx : Addr) (H0 H : Hp) (ws : List V) (as : List D) (ns : List PySem.Str) (vs : List V) (ds : List D) : Prop where
  at_ : H x = some (.ins C dx (ns.zip vs))
  len : ns.length = vs.length
  ra : RlA K (wo H (x :: X0)) ws as
  rf : RlA K (wo H (x :: X0)) vs ds
  old : ∀ a ∈ X0, H a = H0 a
  sub : Sub (wo H0 (x :: X0)) (wo H (x :: X0))
  tb : TbK H0 H
theorem wo_updh {H : Hp} {x : Addr} {X0 : List Addr} {o : HO} : wo (upd H x o) (x :: X0) = wo H (x :: X0) := by
  funext a
  unfold wo
  by_cases h : a = x
  · subst h
    rw [if_pos List.mem_cons_self, if_pos List.mem_cons_self]
  · rw [upd_ne h]
section
variable {K : Frag} {X0 : List Addr} {x C dx : Addr} {H0 H : Hp} {ws : List V} {as : List D} {ns : List PySem.Str} {vs : List V} {ds : List D}
theorem Bld.step (B : Bld K X0 x C dx H0 H ws as ns vs ds) (hx : x ∉ X0) {H' : Hp} {v : V} {d : D} (own : ∀ a ∈ x :: X0, H' a = H a) (sub : Sub (wo H (x :: X0)) (wo H' (x :: X0))) (tb : TbK H H') (r : Rl K (wo H' (x :: X0)) v d) (f : PySem.Str) :
    H' x = some (.ins C dx (ns.zip vs)) ∧ Bld K X0 x C dx H0 (upd H' x (.ins C dx ((ns ++ [f]).zip (vs ++ [v])))) ws as (ns ++ [f]) (vs ++ [v]) (ds ++ [d]) := by
  have e : H' x = some (.ins C dx (ns.zip vs)) := by rw [own x List.mem_cons_self]; exact B.at_
  refine ⟨e, upd_same, by rw [List.length_append, List.length_append, B.len]; rfl, ?_, ?_, fun a h => ?_, ?_, ?_⟩
  · rw [wo_updh]; exact B.ra.mono sub
  · rw [wo_updh]; exact (B.rf.mono sub).app (.cons r .nil)
  · rw [upd_ne (fun z => hx (by rw [← z]; exact h)), own a (List.mem_cons_of_mem _ h)]; exact B.old a h
  · rw [wo_updh]; exact B.sub.trans sub
  · exact B.tb.trans (tb.trans (TbK.at_ e))
theorem Bld.done (B : Bld K X0 x C dx H0 H ws as ns vs ds) (hx : x ∉ X0) : Sub (wo H0 (x :: X0)) (wo H X0) ∧ Rl K (wo H X0) (.ref x) (.ins C ns ds) := by
  have m : Sub (wo H (x :: X0)) (wo H X0) := wo_more fun a h => List.mem_cons_of_mem _ h
  exact ⟨B.sub.trans m, .ins (wo_of hx B.at_) B.len (B.rf.mono m)⟩
end
end DL
set_option maxHeartbeats 1000000
set_option maxHeartbeats 1000000
namespace BW
open PySem L2 DL
inductive Val : Nat → D → Prop
  | non {n : Nat} : Val n .non
  | bl {n : Nat} (b : Bool) : Val n (.bl b)
  | int {n : Nat} (i : Int) : Val n (.int i)
  | str {n : Nat} {x : PySem.Str} : PyData.strOk x = true → Val n (.str x)
  | tup {n : Nat} {xs : List D} : xs.length ≤ 300000 → (n ≤ 1 → xs.length ≤ 900) → (∀ x ∈ xs, Val n x) → Val (n + 1) (.tup xs)
  | lst {n : Nat} {xs : List D} : xs.length ≤ 300000 → (n ≤ 1 → xs.length ≤ 900) → (∀ x ∈ xs, Val n x) → Val (n + 1) (.lst xs)
theorem Val.up {n : Nat} {d : D} (h : Val n d) : ∀ {m : Nat}, n ≤ m → Val m d := by
  induction h with
  | non => exact fun _ => .non
  | bl b => exact fun _ => .bl b
  | int i => exact fun _ => .int i
  | str h => exact fun _ => .str h
  | @tup n xs h1 h2 h3 ih =>
    intro m hm
    obtain ⟨m, rfl⟩ : ∃ k, m = k + 1 := ⟨m - 1, by omega⟩
    exact .tup h1 (fun z => h2 (by omega)) fun x hx => ih x hx (by omega)
  | @lst n xs h1 h2 h3 ih =>
    intro m hm
    obtain ⟨m, rfl⟩ : ∃ k, m = k + 1 := ⟨m - 1, by omega⟩
    exact .lst h1 (fun z => h2 (by omega)) fun x hx => ih x hx (by omega)
theorem Val.ty {n : Nat} {d : D} (h : Val n d) : d.tname.isSome = true := by cases h <;> rfl
theorem lays17 {n : Nat} : ∀ {xs : List D}, (∀ x ∈ xs, x.plain = true ∧ PyData.canLay0 x.py = true ∧ PyData.depth x.py ≤ n) → plainA xs = true ∧ PyData.canLayAll0 (pyA xs) = true ∧ PyData.depthAll (pyA xs) ≤ n
  | [], _ => ⟨rfl, rfl, Nat.zero_le _⟩
  | x :: r, h => by
    obtain ⟨a, b, c⟩ := lays17 (xs := r) fun z hz => h z (List.mem_cons_of_mem _ hz)
    obtain ⟨a', b', c'⟩ := h x List.mem_cons_self
    refine ⟨?_, ?_, ?_⟩
    · show (x.plain && plainA r) = true
      rw [a', a]; rfl
    · show (PyData.canLay0 x.py && PyData.canLayAll0 (pyA r)) = true
      rw [b', b]; rfl
    · show max (PyData.depth x.py) (PyData.depthAll (pyA r)) ≤ n
      omega
theorem Val.lay {n : Nat} {d : D} (h : Val n d) : d.plain = true ∧ PyData.canLay0 d.py = true ∧ PyData.depth d.py ≤ n := by
  induction h with
  | non => exact ⟨rfl, rfl, Nat.zero_le _⟩
  | bl b => exact ⟨rfl, rfl, Nat.zero_le _⟩
  | int i => exact ⟨rfl, rfl, Nat.zero_le _⟩
  | str h => exact ⟨rfl, h, Nat.zero_le _⟩
  | @tup n xs h1 h2 h3 ih =>
    obtain ⟨a, b, c⟩ := lays17 ih
    exact ⟨a, b, by show PyData.depthAll (pyA xs) + 1 ≤ n + 1; omega⟩
  | @lst n xs h1 h2 h3 ih =>
    obtain ⟨a, b, c⟩ := lays17 ih
    exact ⟨a, b, by show PyData.depthAll (pyA xs) + 1 ≤ n + 1; omega⟩
theorem Val.okE {n : Nat} {d : D} (h : Val n d) (hn : n ≤ 40) : d.okE = true := by
  obtain ⟨a, b, c⟩ := h.lay
  show (d.plain && (PyData.canLay0 d.py && decide (PyData.depth d.py ≤ 64))) = true
  rw [a, b, decide_eq_true (by omega)]; rfl
end BW
set_option maxHeartbeats 1000000
namespace BW
open PySem L2 DL
theorem at0 (y : D) (r : List D) : atI (y :: r) 0 = some y := atI_nat (j := 0) rfl
section
variable {T : Mat} {w v : List Int} {X : List Addr} {k : Nat} {DD : DEnds} {x4 x5 : Sl} {d : D}
theorem at1 (a b : D) (r : List D) : atI (a :: b :: r) 1 = some b := atI_nat (j := 1) rfl
end
end BW
set_option maxHeartbeats 1000000
namespace BW
open PySem L2 DL
theorem l10k {n : Nat} (h : n ≤ 10000) : n ≤ lim := Nat.le_trans h (by decide)
end BW
set_option maxHeartbeats 1000000
set_option autoImplicit false
namespace LamD
open PySem PySem.Spec PyProof.Rows L2 LamX
end LamD
set_option maxHeartbeats 1000000
set_option autoImplicit false
namespace LamD
open PySem PySem.Spec PyProof.Rows L2 LamX
end LamD
set_option maxHeartbeats 1000000
set_option autoImplicit false
namespace LamD
open PySem PySem.Spec PyProof.Rows L2 LamX
end LamD
set_option maxHeartbeats 1000000
set_option autoImplicit false
namespace LamD
open PySem PySem.Spec PyProof.Rows L2 LamX
end LamD
set_option maxHeartbeats 1000000
set_option autoImplicit false
namespace LamD
open PySem PySem.Spec PyProof.Rows L2 LamX
end LamD
set_option maxHeartbeats 1000000
namespace LamD
open PySem
end LamD
namespace DL
open PySem PySem.Spec PyProof.Rows L2 LamX LamD
end DL
set_option maxHeartbeats 1000000
namespace DL
open PySem PySem.Spec PyProof.Rows L2 LamX
end DL
set_option maxHeartbeats 1000000
namespace DL
open PySem PySem.Spec PyProof.Rows L2 LamX LamD
open PySem.W (Frag)
end DL
namespace DL
open PySem L2
open PySem.W (Frag)
end DL
set_option maxHeartbeats 2000000
namespace PySem
namespace HandSPX
open Builtin Builtin.ObjectAttr
end HandSPX
end PySem
set_option maxHeartbeats 2000000
namespace DL
open PySem PySem.Spec PyProof.Rows L2
open PySem.W (Frag)
end DL
set_option maxHeartbeats 2000000
namespace DL
open PySem PySem.Spec PyProof.Rows L2
open PySem.W (Frag)
end DL
namespace DL
open PySem L2 L2G
open PySem.W (Frag)
end DL
set_option maxHeartbeats 2000000
namespace DL
open PySem PySem.Spec PyProof.Rows L2
open PySem.W (Frag)
end DL
set_option maxHeartbeats 2000000
namespace DL
open PySem PySem.Spec PyProof.Rows L2
end DL
set_option maxHeartbeats 1000000
namespace BW
open PySem L2 DL
def WdO (T : Mat) (d : D) (k : Nat) (E : D → Nat → Prop) (G : List Int → Prop) : Prop := (∃ x, BadW T.length d x ∧ E x k) ∨ ∃ w, isW d w ∧ w.length ≤ 60 ∧ Wd T.length w ∧ G w
theorem WdO.imp {T : Mat} {d : D} {k : Nat} {E : D → Nat → Prop} {G G' : List Int → Prop} (h : WdO T d k E G) (f : ∀ w, Wd T.length w → w.length ≤ 60 → G w → G' w) : WdO T d k E G' := Or.imp id (fun ⟨w, a, b, c, g⟩ => ⟨w, a, b, c, f w c b g⟩) h
end BW
namespace BW
open PySem L2 DL
theorem Mx.snoc {H : Hp} {D q : Addr} {qs : List Addr} {M : Mat} {r : List Int} (mx : Mx H D qs M) (fq : H q = none) : Mx (upd (upd H q (.lst (r.map V.int))) D (.lst ((qs ++ [q]).map V.ref))) D (qs ++ [q]) (M ++ [r]) := by
  have nDq : D ≠ q := fun z => by have := mx.top; rw [z, fq] at this; cases this
  have nqs : q ∉ qs := fun z => by
    obtain ⟨j, hj⟩ := List.getElem?_of_mem z
    have hj2 : j < M.length := by have := (List.getElem?_eq_some_iff.mp hj).1; rw [mx.len] at this; exact this
    have := mx.row j q _ hj (List.getElem?_eq_getElem hj2)
    rw [fq] at this
    cases this
  refine ⟨upd_same, by rw [List.length_append, List.length_append, mx.len]; rfl, fun j b r' hb hr => ?_, ?_, ?_⟩
  · have nbD : b ≠ D := fun z => by
      rcases List.mem_append.mp (List.mem_of_getElem? hb) with h2 | h2
      · exact mx.out (z ▸ h2)
      · rw [List.mem_singleton] at h2
        exact nDq (z ▸ h2)
    rw [upd_ne nbD]
    by_cases hj : j < qs.length
    · rw [List.getElem?_append_left hj] at hb
      rw [List.getElem?_append_left (by rw [← mx.len]; exact hj)] at hr
      have nb : b ≠ q := fun z => nqs (z ▸ List.mem_of_getElem? hb)
      rw [upd_ne nb]
      exact mx.row j b r' hb hr
    · rw [List.getElem?_append_right (by omega)] at hb
      rw [List.getElem?_append_right (by rw [← mx.len]; omega), ← mx.len] at hr
      have ej : j - qs.length = 0 := by
        have := (List.getElem?_eq_some_iff.mp hb).1
        rw [List.length_singleton] at this
        omega
      rw [ej] at hb hr
      cases hb
      cases hr
      exact upd_same
  · exact List.nodup_append.mpr ⟨mx.nd, by simp, fun a ha b hb => by
      rw [List.mem_singleton] at hb
      subst hb
      exact fun z => nqs (z ▸ ha)⟩
  · intro z
    rcases List.mem_append.mp z with z | z
    · exact mx.out z
    · rw [List.mem_singleton] at z
      exact nDq z
theorem ones_row (n : Nat) : (List.replicate ((n : Int)).toNat [V.int 1]).flatten = ((List.range n).map fun _ => (1 : Int)).map V.int := by
  rw [Int.toNat_natCast]
  induction n with
  | zero => rfl
  | succ n ih => rw [List.replicate_succ', List.flatten_append, ih, range_step, List.map_append]; rfl
abbrev tOnes : TE := tOp rRep (tLst (tCons (tC (V.int 1)) tNil)) (tVar 1)
theorem nest_tab2 {X0 : List Addr} {n : Nat} {σ : L2.St} {H : Hp} {Q : VK} (xs : ∀ a ∈ X0, H a ≠ none) (n6 : n ≤ 6) (e1 : σ[1]? = some (some (.int n)))
    (h : ∀ p qs H', Keep none X0 H H' → H p = none → (∀ q ∈ qs, H q = none) → Mx H' p qs (fm n fun _ _ => 1) → Q (.ref p) H') :
    tLc (iRng1 (tCons (tVar 1) tNil)) (gName 7) tYes tOnes [7] σ H Q := by
  refine ⟨_, e1, n, rfl, by omega, by omega, fun D hD => ?_⟩
  rw [Int.toNat_natCast]
  refine ⟨fun i m H' => m = n - i ∧ i ≤ n ∧ ∃ qs, Keep none X0 H H' ∧ (∀ q ∈ qs, H q = none) ∧ Mx H' D qs ((List.range i).map fun _ => (List.range n).map fun _ => 1), ⟨n, rfl, Nat.zero_le _, [], Keep.refl.new xs hD, fun _ h => (nomatch h), ⟨upd_same, rfl, fun i q r e => by simp at e, List.nodup_nil, by simp⟩⟩, ?_⟩
  rintro i m H' ⟨rfl, hi, qs, kp, fr, mx⟩
  by_cases hlt : i < n
  · refine .inr ⟨hlt, fun H'' => ∃ qs, Keep none X0 H H'' ∧ (∀ q ∈ qs, H q = none) ∧ Mx H'' D qs ((List.range (i + 1)).map fun _ => (List.range n).map fun _ => 1), fun H'' ⟨qs, q⟩ => ⟨n - (i + 1), by omega, rfl, hlt, qs, q⟩, ?_⟩
    rintro x H'' ⟨rfl, rfl⟩
    refine ⟨?_, ?_⟩
    · show ((σ.set 7 none).set 7 (some (V.int (0 + (i : Int))))).set 7 none = σ.set 7 none
      rw [List.set_set, List.set_set]
    · unfold tYes
      dsimp only
      rw [if_pos rfl]
      have e1' : ((σ.set 7 none).set 7 (some (V.int (0 + (i : Int)))))[1]? = some (some (.int n)) := by
        rw [List.getElem?_set_ne (by decide), List.getElem?_set_ne (by decide)]; exact e1
      refine ⟨by show 1 ≤ sizeLine; decide, fun T hT => ⟨_, e1', T, n, [V.int 1], rfl, rfl, upd_same, by omega, by omega, ?_, fun q hq => ?_⟩⟩
      · rw [Int.toNat_natCast]
        show 1 * n ≤ sizeLine
        exact Nat.le_trans (by omega : _ ≤ 6) (by decide)
      · have kT : Keep none X0 H (upd H'' T (.lst [V.int 1])) := kp.new xs hT
        have mT := mx.keepT (o := .lst [V.int 1]) hT
        have kq := kT.new (o := .lst ((List.replicate ((n : Int)).toNat [V.int 1]).flatten)) xs hq
        have mq := mT.keepT (o := .lst ((List.replicate ((n : Int)).toNat [V.int 1]).flatten)) hq
        refine ⟨qs.map V.ref, mq.top, by rw [List.length_map, mx.len, List.length_map, List.length_range]; exact Nat.lt_of_lt_of_le (by omega : i < 6) (by decide), qs ++ [q], kq.mut xs hD (.at_ mq.top), fun b hb => ?_, ?_⟩
        · rcases List.mem_append.mp hb with hb | hb
          · exact fr b hb
          · rw [List.mem_singleton.mp hb]
            exact kT.fresh (by simp [Ml]) hq
        · have s := mT.snoc (r := (List.range n).map fun _ => 1) hq
          rw [← ones_row, List.map_append] at s
          rw [range_step]
          exact s
  · have e : i = n := by omega
    subst e
    exact .inl ⟨Nat.le_refl _, h D qs H' kp hD fr mx⟩
abbrev AL (v : Int) : Prop := v = 2 ∨ v = 3 ∨ v = 4 ∨ v = 6 ∨ v = 0
structure Gq (f : Nat → Nat → Int) (a b : Nat) : Prop where
  dg : ∀ i, f i i = 1
  sy : ∀ i j, f i j = f j i
  of : ∀ i j, j < i → (i < a ∨ (i = a ∧ j < b)) → AL (f i j)
theorem gq0 : Gq (fun _ _ => 1) 0 0 := ⟨fun _ => rfl, fun _ _ => rfl, fun i j h z => by omega⟩
theorem Gq.next {f : Nat → Nat → Int} {a : Nat} (g : Gq f a a) : Gq f (a + 1) 0 := ⟨g.dg, g.sy, fun i j h z => g.of i j h (by omega)⟩
theorem Gq.sw {f : Nat → Nat → Int} {a b : Nat} (g : Gq f a b) (hb : b < a) {v : Int} (hv : AL v) : Gq (fsw f a b v) a (b + 1) := by
  refine ⟨fun i => ?_, fun i j => ?_, fun i j h z => ?_⟩
  · unfold fsw
    rw [if_neg (by omega)]
    exact g.dg i
  · unfold fsw
    by_cases h : (i = a ∧ j = b) ∨ (i = b ∧ j = a)
    · rw [if_pos h, if_pos (by omega)]
    · rw [if_neg h, if_neg (by omega)]
      exact g.sy i j
  · unfold fsw
    by_cases c : (i = a ∧ j = b) ∨ (i = b ∧ j = a)
    · rw [if_pos c]; exact hv
    · rw [if_neg c]
      exact g.of i j h (by omega)
theorem tab_gq {n : Nat} {f : Nat → Nat → Int} (n1 : 1 ≤ n) (n6 : n ≤ 6) (g : Gq f n 0) : Tab (fm n f) := by
  refine ⟨by rw [fm_len]; exact n1, by rw [fm_len]; exact n6, fun i hi => ?_, fun i hi => ?_, fun i j hi hj ne => ?_, fun i j hi hj => ?_⟩
  · rw [fm_len] at hi ⊢
    rw [fm_row hi, List.length_map, List.length_range]
  · rw [fm_len] at hi
    rw [fm_at hi hi]
    exact g.dg i
  · rw [fm_len] at hi hj
    rw [fm_at hi hj]
    by_cases c : j < i
    · exact g.of i j c (.inl hi)
    · rw [g.sy]
      exact g.of j i (by omega) (.inl hj)
  · rw [fm_len] at hi hj
    rw [fm_at hi hj, fm_at hj hi]
    exact g.sy i j
abbrev tSt (K : PySem.W.Frag) (i j : Nat) : TS := tAsg (tVar 6) (gSub (tOp (rIxL K) (tVar 3) (tVar i)) (tVar j) rSetL)
theorem st_tab {K : PySem.W.Frag} {σ : L2.St} {H : Hp} {D : Ends} {p : Addr} {qs : List Addr} {M : Mat} {i j a b : Nat} {v x y : Int} (hx : x = a) (hy : y = b) (mx : Mx H p qs M) (ha : a < M.length) (hb : b < (M.getD a []).length) (e3 : σ[3]? = some (some (V.ref p))) (ei : σ[i]? = some (some (V.int x))) (ej : σ[j]? = some (some (V.int y))) (e6 : σ[6]? = some (some (V.int v)))
    (h : ∀ H', (∀ x o, x ∉ qs → H x = some o → H' x = some o) → TbK H H' → Mx H' p qs (M.set a ((M.getD a []).set b v)) → D.nx σ H') : tSt K i j D σ H := by
  subst hx hy
  obtain ⟨q1, hq1⟩ : ∃ q, qs[a]? = some q := ⟨qs[a]'(by rw [mx.len]; exact ha), List.getElem?_eq_getElem _⟩
  have m1 : M[a]? = some (M.getD a []) := getD_get ha
  refine ⟨_, e6, _, e3, _, ei, p, qs.map V.ref, _, .ref q1, rfl, rfl, SqL.of mx.top, atI_nat (by rw [List.getElem?_map, hq1]; rfl), ?_⟩
  refine ⟨_, ej, q1, (M.getD a []).map V.int, _, b, rfl, rfl, mx.row a q1 _ hq1 m1, ixN_nat (j := b) (by rw [List.length_map]; exact hb), ?_⟩
  have e1 : ((M.getD a []).map V.int).set b (V.int v) = ((M.getD a []).set b v).map V.int := by rw [List.map_set]
  rw [e1]
  exact h _ (fun x o hx ex => by rw [upd_ne (fun z => hx (by rw [z]; exact List.mem_of_getElem? hq1))]; exact ex) (TbK.at_ (mx.row a q1 _ hq1 m1)) (mx.set hq1 _)
theorem st_two {K : PySem.W.Frag} {σ : L2.St} {H : Hp} {D : Ends} {p : Addr} {qs : List Addr} {n : Nat} {f : Nat → Nat → Int} {a b : Nat} {v x y : Int} (hx : x = a) (hy : y = b) (mx : Mx H p qs (fm n f)) (ha : a < n) (hb : b < n) (ne : a ≠ b) (e3 : σ[3]? = some (some (V.ref p))) (e4 : σ[4]? = some (some (V.int x))) (e5 : σ[5]? = some (some (V.int y))) (e6 : σ[6]? = some (some (V.int v)))
    (h : ∀ H', (∀ x o, x ∉ qs → H x = some o → H' x = some o) → TbK H H' → Mx H' p qs (fm n (fsw f a b v)) → D.nx σ H') : tSeq (tSt K 4 5) (tSt K 5 4) D σ H := by
  have ln := fm_len n f
  have l1 : ∀ {i}, i < n → ((fm n f).getD i []).length = n := fun {i} hi => by rw [fm_row hi, List.length_map, List.length_range]
  refine st_tab hx hy mx (by omega) (by rw [l1 ha]; exact hb) e3 e4 e5 e6 fun H1 k1 t1 m1 => ?_
  have gb : ((fm n f).set a (((fm n f).getD a []).set b v)).getD b [] = (fm n f).getD b [] := by
    rw [List.getD_eq_getElem?_getD, List.getElem?_set_ne ne, ← List.getD_eq_getElem?_getD]
  refine st_tab hy hx m1 (by rw [List.length_set]; omega) (by rw [gb, l1 hb]; exact ha) e3 e5 e4 e6 fun H2 k2 t2 m2 => ?_
  rw [gb, fm_sw ha hb ne] at m2
  exact h H2 (fun x o hx ex => k2 x o hx (k1 x o hx ex)) (t1.trans t2) m2
structure S9 (m : Mc) (n : Nat) (u2 : V) (p : Addr) (σ : L2.St) : Prop where
  len : σ.length = 8
  e0 : σ[0]? = some (some (.ref m.pm))
  e1 : σ[1]? = some (some (.int n))
  e2 : σ[2]? = some (some u2)
  e3 : σ[3]? = some (some (.ref p))
  kd : m.kd = none
theorem S9.set {m : Mc} {n : Nat} {u2 : V} {p : Addr} {σ : L2.St} (h : S9 m n u2 p σ) {i : Nat} (hi : 4 ≤ i) (v : Option V) : S9 m n u2 p (σ.set i v) :=
  ⟨by rw [List.length_set]; exact h.len, by rw [List.getElem?_set_ne (by omega)]; exact h.e0, by rw [List.getElem?_set_ne (by omega)]; exact h.e1, by rw [List.getElem?_set_ne (by omega)]; exact h.e2, by rw [List.getElem?_set_ne (by omega)]; exact h.e3, h.kd⟩
abbrev sS9 (X0 : List Addr) (zs : List Int) (k : Nat) : S := ⟨X0, [.mst, .no, .dat (.lst (zs.map .int)), .no, .no, .no, .no, .no], k⟩
theorem rep9 {K : PySem.W.Frag} {m : Mc} {n : Nat} {u2 : V} {zs : List Int} {p : Addr} {X0 : List Addr} {σ : L2.St} {H : Hp} {k : Nat} (xm : ∀ a ∈ X0, a ∉ Ml (some m)) (xs : ∀ a ∈ X0, H a ≠ none) (xt : ∀ a ∈ X0, ∀ ps, H a ≠ some (.tbl ps)) (h : S9 m n u2 p σ) (ru : Rl K (wo H (Ml (some m) ++ X0)) u2 (.lst (zs.map .int))) (hm : MAt (some m) H k) :
    Rep ⟨K, some m, X0, H, []⟩ (sS9 X0 zs k) σ H := by
  refine rep_of xm xs xt h.len.symm hm (fun i x e => ?_) (fun i p ds e => ?_)
  · match i, e with
    | 0, e => cases e; exact ⟨m, ⟨rfl, h.kd⟩, h.e0⟩
    | 1, e => cases e; trivial
    | 2, e => cases e; exact ⟨_, h.e2, ru⟩
    | 3, e => cases e; trivial
    | 4, e => cases e; trivial
    | 5, e => cases e; trivial
    | 6, e => cases e; trivial
    | 7, e => cases e; trivial
  · have mem := List.mem_of_getElem? e
    simp at mem
theorem le9 {K : PySem.W.Frag} {m : Mc} {n : Nat} {u2 : V} {zs : List Int} {p : Addr} {X0 : List Addr} {σ : L2.St} {H : Hp} {k : Nat} (xm : ∀ a ∈ X0, a ∉ Ml (some m)) (xs : ∀ a ∈ X0, H a ≠ none) (xt : ∀ a ∈ X0, ∀ ps, H a ≠ some (.tbl ps)) (h : S9 m n u2 p σ) (ru : Rl K (wo H (Ml (some m) ++ X0)) u2 (.lst (zs.map .int))) (hm : MAt (some m) H k) {t : DE} {R : D → Nat → Prop} {Q : VK}
    (ht : t (sS9 X0 zs k) R) (hq : ∀ d k', R d k' → ∀ v H', Keep (some m) X0 H H' → MAt (some m) H' k' → Rl K (wo H' (Ml (some m) ++ X0)) v d → Q v H') : exLE K t σ H Q :=
  ⟨⟨K, some m, X0, H, []⟩, rfl, _, R, rep9 xm xs xt h ru hm, ht, fun d k' hR v H' r a e => hq d k' hR v H' (Keep.rep r xm xs) r.m e⟩
abbrev t_k2 : DE := dIxN 2 (dCallM 0 sp__law_draw (dCons (dLenN 2) dNil))
def sp__law_tableS : DSp := fun ds k R => ∃ (n : Nat) (zs : List Int), ds = [.int n, .lst (zs.map .int)] ∧ 1 ≤ n ∧ n ≤ 6 ∧ zs ≠ [] ∧ zs.length ≤ 100 ∧ (∀ z ∈ zs, AL z) ∧ k < 90000000000 ∧ ∀ (T : Mat) (k' : Nat), Tab T → T.length = n → k ≤ k' → k' ≤ k + 40 → R (lM T) k'
end BW
set_option maxHeartbeats 1000000
namespace BW
open PySem L2 DL
def sp__law_weightL : DSp := fun ds k R => ∃ T a b, ds = [lM T, .int a, .int b] ∧ Tab T ∧ 1 ≤ a ∧ a ≤ T.length ∧ 1 ≤ b ∧ b ≤ T.length ∧ a ≠ b ∧ R (.int (wt T (ix a) (ix b))) k
def sp__law_pressedL : DSp := fun ds k R => ∃ T r a, ds = [lM T, tI r, .int a] ∧ Tab T ∧ r.length = T.length ∧ 1 ≤ a ∧ a ≤ T.length ∧ R (tI (press T r (ix a))) k
def sp__law_rowL : DSp := fun ds k R => ∃ T d w, ds = [lM T, d] ∧ Tab T ∧ isW d w ∧ Wd T.length w ∧ R (tI (row T w)) k
def sp__law_backL : DSp := fun ds k R => ∃ T w, ds = [lM T, tI (row T w)] ∧ Tab T ∧ Wd T.length w ∧ w.length ≤ 60 ∧ R (lI (wd T 60 (row T w)).1) k
def sp__law_leastL : DSp := fun ds k R => ∃ T d w, ds = [lM T, d] ∧ Tab T ∧ isW d w ∧ Wd T.length w ∧ w.length ≤ 60 ∧ R (tI (lw T w)) k
def sp__law_wordL : DSp := fun ds k R => ∃ (n : Nat) (most : Int), ds = [.int n, .int most] ∧ 1 ≤ n ∧ n ≤ 6 ∧ 0 ≤ most ∧ most ≤ 60 ∧ k < 90000000000 ∧ ∀ w k', Wd n w → (w.length : Int) ≤ most → k ≤ k' → k' ≤ k + 200 → R (lI w) k'
abbrev t__law_weightL : DS := (dSeq (dSet 3 (dDix [(2, (dTup (dCons (dC (.int 0)) (dCons (dC (.int 0)) dNil)))), (3, (dTup (dCons (dC (.int 1)) (dCons (dC (.int 1)) dNil)))), (4, (dTup (dCons (dC (.int 1)) (dCons (dC (.int 2)) dNil)))), (6, (dTup (dCons (dC (.int 1)) (dCons (dC (.int 3)) dNil)))), (0, (dTup (dCons (dC (.int 2)) (dCons (dC (.int 2)) dNil))))] (dOp oIx (dIxN 0 (dOp oSub (dVar 1) (dC (.int 1)))) (dOp oSub (dVar 2) (dC (.int 1))))))
  (dRet (dIf (dTB (dOp oLt (dVar 1) (dVar 2))) (dIxN 3 (dC (.int 0))) (dIxN 3 (dC (.int 1))))))
abbrev t__law_pressedL : DS := (dSeq (dSet 3 (dIxN 1 (dOp oSub (dVar 2) (dC (.int 1)))))
  (dSeq (dSetO 4 (dLs dNil))
  (dSeq (dFor (iR2 (dC (.int 1)) (dOp oAdd (dLenN 1) (dC (.int 1)))) (dgN 5) (dSeq (dSet 6 (dIxN 1 (dOp oSub (dVar 5) (dC (.int 1)))))
  (dApp 4 (dIf (dTB (dOp oEq (dVar 5) (dVar 2))) (dOp oSub (dC (.int 0)) (dVar 3)) (dOp oAdd (dVar 6) (dOp oMul (dCall sp__law_weightL (dCons (dVar 0) (dCons (dVar 2) (dCons (dVar 5) dNil)))) (dVar 3)))))))
  (dRet (dTupN 4)))))
abbrev t__law_rowL : DS := (dSeq (dSet 2 (dOp oMul (dTup (dCons (dC (.int 1)) dNil)) (dLenN 0)))
  (dSeq (dFor (iSeq (dVar 1)) (dgN 3) (dSet 2 (dCall sp__law_pressedL (dCons (dVar 0) (dCons (dVar 2) (dCons (dVar 3) dNil))))))
  (dRet (dVar 2))))
abbrev t__law_backL : DS := (dSeq (dSetO 2 (dLs dNil))
  (dSeq (dWhile (dTB (dOp oLt (dMinT (dVar 1)) (dC (.int 0)))) (dSeq (dSet 3 (dOp oIx (dFr (dLc (iR1 (dLenN 1)) (dgN 4) (dTB (dOp oLt (dIxN 1 (dVar 4)) (dC (.int 0)))) (dOp oAdd (dVar 4) (dC (.int 1))) [4])) (dC (.int 0))))
  (dSeq (dApp 2 (dVar 3))
  (dSet 1 (dCall sp__law_pressedL (dCons (dVar 0) (dCons (dVar 1) (dCons (dVar 3) dNil))))))))
  (dRet (dVar 2))))
abbrev t__law_leastL : DS := (dRet (dTupOf (dCall sp__law_backL (dCons (dVar 0) (dCons (dCall sp__law_rowL (dCons (dVar 0) (dCons (dRev (dFr (dLstN 1))) dNil))) dNil)))))
abbrev t__law_wordL : DS := (dRet (dFr (dLc (iR1 (dCallM 0 sp__law_draw (dCons (dOp oAdd (dVar 2) (dC (.int 1))) dNil))) (dgN 3) dY (dOp oAdd (dC (.int 1)) (dCallM 0 sp__law_draw (dCons (dVar 1) dNil))) [3])))
theorem r__law_weightL (X : List Addr) (ds : List D) (k : Nat) (R : D → Nat → Prop) (h : sp__law_weightL ds k R) : t__law_weightL (En R) (St0 false 4 ds X k) := by
  obtain ⟨T, a, b, rfl, ht, a1, a2, b1, b2, ne, h⟩ := h
  obtain ⟨i, rfl⟩ : ∃ i : Nat, a = (i : Int) + 1 := ⟨(a - 1).toNat, by omega⟩
  obtain ⟨j, rfl⟩ : ∃ j : Nat, b = (j : Int) + 1 := ⟨(b - 1).toNat, by omega⟩
  have hi : i < T.length := by omega
  have hj : j < T.length := by omega
  have ei : ix ((i : Int) + 1) = i := by unfold ix; omega
  have ej : ix ((j : Int) + 1) = j := by unfold ix; omega
  rw [ei, ej] at h
  have row : ∀ i : Nat, i < T.length → ∀ z : Int, z = (i : Int) → atI (T.map lI) z = some (lI (T.getD i [])) := fun i hi z e => by rw [e]; exact atM [] hi
  have item : ∀ i j : Nat, i < T.length → j < T.length → ∀ z : Int, z = (j : Int) → atI ((T.getD i []).map D.int) z = some (.int (at2 T i j)) := fun i j hi hj z e => by rw [e]; exact atM 0 (by rw [ht.sq i hi]; exact hj)
  have ne' : i ≠ j := by omega
  refine fun p hp => ⟨by decide, by decide, by decide, by decide, by decide, ⟨by decide, by decide⟩, ?_⟩
  refine ⟨_, rfl, _, rfl, _, _, rfl, row i hi _ (by omega), _, rfl, _, _, rfl, item i j hi hj _ (by omega), ?_⟩
  refine ⟨_, _, rfl, look_dix (ht.of i j hi hj ne'), ?_⟩
  intro X
  unfold wt at h
  rw [if_neg ne'] at h
  refine ⟨_, rfl, _, rfl, _, rfl, iteD (fun lt => ⟨_, rfl, 0, _, rfl, at0 _ _, ?_⟩) fun ge => ⟨_, rfl, 1, _, rfl, at1 _ _ _, ?_⟩⟩
  · rw [if_pos (by omega)] at h; exact h
  · rw [if_neg (by omega)] at h; exact h
theorem r__law_pressedL (X : List Addr) (ds : List D) (k : Nat) (R : D → Nat → Prop) (h : sp__law_pressedL ds k R) : t__law_pressedL (En R) (St0 false 7 ds X k) := by
  obtain ⟨T, r, a, rfl, ht, hr, a1, a2, h⟩ := h
  have hT := ht.hi
  obtain ⟨i, rfl⟩ : ∃ i : Nat, a = (i : Int) + 1 := ⟨(a - 1).toNat, by omega⟩
  have hi : i < T.length := by omega
  have ei : ix ((i : Int) + 1) = i := by unfold ix; omega
  rw [ei] at h
  have lr : (r.map D.int).length = T.length := by rw [List.length_map]; exact hr
  refine ⟨_, rfl, _, rfl, _, .int (r.getD i 0), rfl, by rw [show (i : Int) + 1 - 1 = (i : Int) by omega]; exact atM 0 (by omega), ?_⟩
  refine ⟨by decide, fun p hp => ?_⟩
  refine ⟨_, rfl, _, _, rfl, rfl, ⟨by omega, by omega, by rw [lr]; omega, by rw [lr]; omega⟩, ?_⟩
  have en : ((((r.map D.int).length : Nat) : Int) + 1 - 1).toNat = T.length := by rw [lr]; omega
  rw [en]
  refine ⟨fun j s' => ∃ x5 x6, s' = ⟨p :: X, [.dat (lM T), .dat (tI r), .dat (.int ((i : Int) + 1)), .dat (.int (r.getD i 0)), .own p ((List.range j).map fun j => D.int (r.getD j 0 + wt T i j * r.getD i 0)), x5, x6], k⟩, ⟨_, _, rfl⟩, ?_, ?_⟩
  · rintro j d s' hd ⟨x5, x6, rfl⟩
    obtain ⟨hj, rfl⟩ := rngD_at hd
    have ll : ((List.range j).map fun j => D.int (r.getD j 0 + wt T i j * r.getD i 0)).length < lim := by
      rw [List.length_map, List.length_range]; exact Nat.lt_of_lt_of_le (by omega : j < 1000) (by decide)
    have st : ∀ z, z = r.getD j 0 + wt T i j * r.getD i 0 → ((List.range j).map fun j => D.int (r.getD j 0 + wt T i j * r.getD i 0)) ++ [D.int z] = (List.range (j + 1)).map fun j => D.int (r.getD j 0 + wt T i j * r.getD i 0) := fun z e => by
      rw [range_step, e]
    refine ⟨_, rfl, _, rfl, _, .int (r.getD j 0), rfl, by rw [show (1 : Int) + (j : Int) - 1 = (j : Int) by omega]; exact atM 0 (by omega), ?_⟩
    refine ⟨p, _, rfl, _, rfl, _, rfl, rfl, rfl, _, rfl, ?_⟩
    rw [eqvI]
    refine iteD (fun e => ⟨_, rfl, ll, ?_⟩) fun ne => ?_
    · have e9 := st (0 - r.getD i 0) (by
        have : j = i := by omega
        subst this
        unfold wt
        rw [if_pos rfl]; omega)
      refine ⟨.dat (.int (1 + (j : Int))), .dat (.int (r.getD j 0)), ?_⟩
      rw [← e9]; rfl
    · refine ⟨_, rfl, _, rfl, _, rfl, _, rfl, T, _, _, rfl, ht, by omega, by omega, by omega, by omega, by omega, _, rfl, .inl (wt_bd _ _ _), ll, ?_⟩
      have ej : ix (1 + (j : Int)) = j := by unfold ix; omega
      refine ⟨.dat (.int (1 + (j : Int))), .dat (.int (r.getD j 0)), ?_⟩
      rw [ei, ej, ← st _ rfl]
      rfl
  · rintro s' ⟨x5, x6, rfl⟩ X'
    rw [rngD_len]
    have e : ((List.range T.length).map fun j => D.int (r.getD j 0 + wt T i j * r.getD i 0)) = (press T r i).map .int := by
      unfold press
      rw [List.map_map]
      rfl
    rw [e]
    exact ⟨_, rfl, h⟩
theorem r__law_rowL (X : List Addr) (ds : List D) (k : Nat) (R : D → Nat → Prop) (h : sp__law_rowL ds k R) : t__law_rowL (En R) (St0 false 4 ds X k) := by
  obtain ⟨T, dw, w, rfl, ht, hd, hw, h⟩ := h
  have lt : (T.map lI).length = T.length := List.length_map ..
  have hT := ht.hi
  have lo := ht.lo
  have hit : dw.items = some (w.map D.int) := by rcases hd with rfl | rfl <;> rfl
  refine ⟨by decide, _, rfl, by simp, by rw [lt]; omega, by rw [lt]; omega, by decide, ?_⟩
  have eo : (List.replicate (((T.map lI).length : Nat) : Int).toNat [D.int 1]).flatten = (one T).map .int := by rw [Int.toNat_natCast, lt]; exact rep_one _
  rw [eo]
  refine ⟨_, rfl, _, hit, fun i s' => ∃ x r, s' = ⟨X, [.dat (lM T), .dat dw, .dat (tI r), x], k⟩ ∧ r.length = T.length ∧ pl T r (w.drop i) = row T w, ⟨_, _, rfl, one_len T, rfl⟩, ?_, ?_⟩
  · rintro i d s' hd ⟨x, r, rfl, hr, e⟩
    rw [List.getElem?_map] at hd
    obtain ⟨a, ha, rfl⟩ := Option.map_eq_some_iff.mp hd
    have b := hw a (List.mem_of_getElem? ha)
    obtain ⟨hi, e2⟩ := List.getElem?_eq_some_iff.mp ha
    rw [List.drop_eq_getElem_cons hi, e2] at e
    refine ⟨_, rfl, _, rfl, _, rfl, T, r, a, rfl, ht, hr, b.1, b.2, ?_⟩
    exact ⟨_, _, rfl, press_length _ _ _, e⟩
  · rintro s' ⟨x, r, rfl, hr, e⟩ X'
    rw [List.length_map, List.drop_length] at e
    have e : r = row T w := e
    subst e
    exact ⟨_, rfl, h⟩
theorem r__law_wordL (X : List Addr) (ds : List D) (k : Nat) (R : D → Nat → Prop) (h : sp__law_wordL ds k R) : t__law_wordL (En R) (St0 true 4 ds X k) := by
  obtain ⟨n, most, rfl, n1, n6, m0, m1, hk, h⟩ := h
  intro X
  refine ⟨rfl, _, rfl, _, rfl, by omega, by omega, by show k < _; omega, fun d d0 d1 => ?_⟩
  refine ⟨_, rfl, by omega, by omega, by rw [rngD_len]; exact l10k (by omega), fun p hp => ⟨fun j acc k' => ∃ w : List Int, acc = w.map D.int ∧ Wd n w ∧ w.length = j ∧ k ≤ k' ∧ k' ≤ k + 1 + j, ⟨[], rfl, (fun _ h => nomatch h), rfl, by show k ≤ k + 1; omega, by show k + 1 ≤ _; omega⟩, ?_, ?_⟩⟩
  · rintro j x acc k' hd ⟨w, rfl, hw, lw, k1, k2⟩ _
    obtain ⟨hj, rfl⟩ := rngD_at hd
    refine iteT ⟨rfl, _, rfl, n, rfl, by omega, by omega, by show k' < _; omega, fun z z0 z1 => ?_⟩
    refine ⟨w ++ [1 + z], by rw [List.map_append]; rfl, wd_app hw fun a ha => ?_, by rw [List.length_append, lw]; rfl, by show k ≤ k' + 1; omega, by show k' + 1 ≤ _; omega⟩
    rw [List.mem_singleton.mp ha]
    omega
  · rintro acc k' ⟨w, rfl, hw, lw, k1, k2⟩ _
    rw [rngD_len] at lw k2
    exact h w k' hw (by omega) k1 (by omega)
theorem min_neg {r : List Int} {m : Int} (hm : m ∈ r) (hle : ∀ y ∈ r, m ≤ y) : (fall r = [] → ¬ m < 0) ∧ (fall r ≠ [] → m < 0) := by
  constructor
  · intro e lt
    obtain ⟨j, hj⟩ := List.getElem?_of_mem hm
    have hj2 := (List.getElem?_eq_some_iff.mp hj).1
    have := fall_none e hj2
    rw [List.getD_eq_getElem?_getD, hj] at this
    have this : 0 ≤ m := this
    omega
  · intro ne
    obtain ⟨a, ha⟩ := List.exists_mem_of_ne_nil _ ne
    obtain ⟨i, rfl, hi, hn⟩ := fall_mem ha
    have := hle (r.getD i 0) (List.mem_of_getElem? (getD_get (d := 0) hi))
    omega
abbrev t_bl46 : DE := dOp oIx (dFr (dLc (iR1 (dLenN 1)) (dgN 4) (dTB (dOp oLt (dIxN 1 (dVar 4)) (dC (.int 0)))) (dOp oAdd (dVar 4) (dC (.int 1))) [4])) (dC (.int 0))
theorem r_bl46 {X : List Addr} {k : Nat} {r : List Int} {x0 x2 x3 x4 : Sl} {a : Int} {q : List Int} (hr : r.length ≤ 6) (hf : fall r = a :: q) {Q : D → Nat → Prop} (h : Q (.int a) k) : t_bl46 ⟨X, [x0, .dat (tI r), x2, x3, x4], k⟩ Q := by
  have lr : (r.map D.int).length = r.length := List.length_map ..
  refine ⟨_, rfl, _, rfl, by omega, by omega, by rw [rngD_len]; exact l10k (by rw [lr]; omega), fun p hp => ⟨fun j acc k' => k' = k ∧ acc = ((((List.range j).filter fun i => decide (r.getD i 0 < 0)).map fun (i : Nat) => (i : Int) + 1).map D.int), ⟨rfl, rfl⟩, ?_, ?_⟩⟩
  · rintro j d acc k' hd ⟨rfl, rfl⟩ _
    obtain ⟨hj, rfl⟩ := rngD_at hd
    have hj : j < r.length := by rw [lr] at hj; omega
    have st : (((List.range (j + 1)).filter fun i => decide (r.getD i 0 < 0)).map fun (i : Nat) => (i : Int) + 1) = ((List.range j).filter fun i => decide (r.getD i 0 < 0)).map (fun (i : Nat) => (i : Int) + 1) ++ if decide (r.getD j 0 < 0) = true then [(j : Int) + 1] else [] := by
      rw [List.range_succ, List.filter_append, List.map_append]
      congr 1
      by_cases h : r.getD j 0 < 0
      · rw [List.filter_cons, if_pos (decide_eq_true h), if_pos (decide_eq_true h)]; rfl
      · rw [List.filter_cons, if_neg (by rw [decide_eq_false h]; decide), if_neg (by rw [decide_eq_false h]; decide)]; rfl
    refine ⟨_, rfl, _, rfl, _, .int (r.getD j 0), rfl, by rw [show (0 : Int) + (j : Int) = (j : Int) by omega]; exact atM 0 hj, _, rfl, iteD (fun lt => ⟨_, rfl, rfl, ?_⟩) fun ge => ⟨rfl, ?_⟩⟩
    · rw [st, if_pos (decide_eq_true lt), List.map_append]
      rw [show (0 : Int) + (j : Int) = (j : Int) by omega]
      rfl
    · rw [st, if_neg (by rw [decide_eq_false ge]; decide), List.append_nil]
  · rintro acc k' ⟨rfl, rfl⟩ _
    rw [rngD_len, lr, Int.toNat_natCast]
    refine ⟨_, .int a, rfl, ?_, h⟩
    have e : (((List.range r.length).filter fun i => decide (r.getD i 0 < 0)).map fun (i : Nat) => (i : Int) + 1) = a :: q := hf
    rw [e]
    exact at0 _ _
theorem r__law_backL (X : List Addr) (ds : List D) (k : Nat) (R : D → Nat → Prop) (h : sp__law_backL ds k R) : t__law_backL (En R) (St0 false 5 ds X k) := by
  obtain ⟨T, w, rfl, ht, hw, hl, h⟩ := h
  have hT := ht.hi
  have lo := ht.lo
  obtain ⟨n0, hn0, hn1⟩ := LN.has (T := T) hw
  refine ⟨by decide, fun p hp => ?_⟩
  refine ⟨fun m s' => ∃ (acc v : List Int) (x3 x4 : Sl), s' = ⟨p :: X, [.dat (lM T), .dat (tI (row T v)), .own p (acc.map .int), x3, x4], k⟩ ∧ Wd T.length v ∧ LN T v m ∧ m + acc.length ≤ 60 ∧ acc ++ (wd T (60 - acc.length) (row T v)).1 = (wd T 60 (row T w)).1, ⟨n0, [], w, .no, .no, rfl, hw, hn0, by show n0 + 0 ≤ 60; omega, rfl⟩, ?_⟩
  rintro m s' ⟨acc, v, x3, x4, rfl, wv, lv, hm, e⟩
  refine ⟨_, rfl, row T v, rfl, by rw [row_length]; omega, fun mn h1 h2 => ⟨_, rfl, ?_⟩⟩
  obtain ⟨g1, g2⟩ := min_neg h1 h2
  cases hf : fall (row T v) with
  | nil =>
    rw [decide_eq_false (g1 hf)]
    refine iteF fun X' => ?_
    rw [wd_nil hf, List.append_nil] at e
    refine ⟨_, rfl, ?_⟩
    rw [← e] at h
    exact h
  | cons a q =>
    rw [decide_eq_true (g2 (by rw [hf]; intro z; cases z))]
    obtain ⟨i, rfl, hi, _⟩ := fall_mem (by rw [hf]; exact List.mem_cons_self : a ∈ fall (row T v))
    rw [row_length] at hi
    obtain ⟨j, rfl, h1, h2, h3⟩ := lv.step ht wv (a := (i : Int) + 1) (by rw [hf]; exact List.mem_cons_self)
    refine iteT (r_bl46 (by rw [row_length]; exact hT) hf ?_)
    refine ⟨p, _, rfl, _, rfl, by rw [List.length_map]; exact Nat.lt_of_le_of_lt (by omega : acc.length ≤ 60) (by decide), ?_⟩
    refine ⟨_, rfl, _, rfl, _, rfl, T, row T v, (i : Int) + 1, rfl, ht, row_length _ _, by omega, by omega, ?_⟩
    rw [h3]
    refine ⟨j, by omega, acc ++ [(i : Int) + 1], v ++ [(i : Int) + 1], .dat (.int ((i : Int) + 1)), x4, by rw [List.map_append]; rfl, h2, h1, by rw [List.length_append, List.length_singleton]; omega, ?_⟩
    obtain ⟨g, eg⟩ : ∃ g, 60 - acc.length = g + 1 := ⟨60 - acc.length - 1, by omega⟩
    rw [eg, wd_cons hf, h3] at e
    rw [← e, List.append_assoc, List.length_append, List.length_singleton, show 60 - (acc.length + 1) = g by omega]
    rfl
theorem r__law_leastL (X : List Addr) (ds : List D) (k : Nat) (R : D → Nat → Prop) (h : sp__law_leastL ds k R) : t__law_leastL (En R) (St0 false 2 ds X k) := by
  obtain ⟨T, d, w, rfl, ht, hd, hw, hl, h⟩ := h
  intro X'
  have go : ∀ {Q : D → Nat → Prop}, Q (tI (lw T w)) k → (dTupOf (dCall sp__law_backL (dCons (dVar 0) (dCons (dCall sp__law_rowL (dCons (dVar 0) (dCons (dRev (dFr (dLstN 1))) dNil))) dNil)))) ⟨X', [.dat (lM T), .dat d], k⟩ Q := by
    intro Q hq
    rcases hd with rfl | rfl
    · exact ⟨_, rfl, _, rfl, _, rfl, T, _, w.reverse, rfl, ht, .inl (by rw [← List.map_reverse]), wd_rev hw, T, w.reverse, rfl, ht, wd_rev hw, by rw [List.length_reverse]; exact hl, _, rfl, hq⟩
    · exact ⟨_, rfl, _, rfl, _, rfl, T, _, w.reverse, rfl, ht, .inl (by rw [← List.map_reverse]), wd_rev hw, T, w.reverse, rfl, ht, wd_rev hw, by rw [List.length_reverse]; exact hl, _, rfl, hq⟩
  exact go h
end BW
set_option maxHeartbeats 1000000
set_option maxHeartbeats 1000000
namespace BW
open PySem L2 DL
inductive Dm : Nat → D → Prop
  | non {n : Nat} : Dm n .non
  | bl {n : Nat} (b : Bool) : Dm n (.bl b)
  | int {n : Nat} (i : Int) : Dm n (.int i)
  | str {n : Nat} {x : PySem.Str} : PyData.strOk x = true → Dm n (.str x)
  | tup {n : Nat} {xs : List D} : xs.length ≤ 210000 → (n = 0 → xs.length ≤ 800) → (∀ x ∈ xs, Dm n x) → Dm (n + 1) (.tup xs)
theorem Dm.val {n : Nat} {d : D} (h : Dm n d) : Val (n + 1) d := by
  induction h with
  | non => exact .non
  | bl b => exact .bl b
  | int i => exact .int i
  | str h => exact .str h
  | @tup n xs h1 h2 h3 ih => exact .tup (by omega) (fun z => Nat.le_trans (h2 (by omega)) (by decide)) ih
theorem Dm.up {n : Nat} {d : D} (h : Dm n d) : ∀ {m : Nat}, n ≤ m → Dm m d := by
  induction h with
  | non => exact fun _ => .non
  | bl b => exact fun _ => .bl b
  | int i => exact fun _ => .int i
  | str h => exact fun _ => .str h
  | @tup n xs h1 h2 h3 ih =>
    intro m hm
    obtain ⟨m, rfl⟩ : ∃ k, m = k + 1 := ⟨m - 1, by omega⟩
    exact .tup h1 (fun z => h2 (by omega)) fun x hx => ih x hx (by omega)
end BW
set_option maxHeartbeats 1000000
namespace DL
open PySem L2
open PySem.W (Frag dataLe AllAlike Sortable)
open PySem.W (EachIs)
end DL
namespace DL
open PySem L2
open PySem.W (Frag dataLe AllAlike Sortable)
end DL
set_option maxHeartbeats 1000000
namespace DL
open PySem PySem.Spec PyProof.Rows L2 LamX
open PySem.W (Frag dataLe AllAlike Sortable EachIs KeyPure)
end DL
set_option maxHeartbeats 1000000
namespace DL
open PySem PySem.Spec PyProof.Rows L2 LamX
open PySem.W (Frag dataLe AllAlike Sortable EachIs KeyPure)
abbrev tIs (w : List Int) : D := .tup (w.map D.int)
end DL
set_option maxHeartbeats 1000000
namespace DL
open PySem L2
open PySem.W (Frag)
end DL
set_option maxHeartbeats 1000000
namespace BW
open PySem L2 DL
abbrev sV (BC : Addr) (T : Mat) (w v : List Int) (x5 x6 x7 x8 x9 x10 x11 x12 : Sl) : List Sl := [.mst, .dat (bnd BC T), .dat (lM T), .dat (tI w), .dat (tI v), x5, x6, x7, x8, x9, x10, x11, x12]
end BW
set_option maxHeartbeats 1000000
set_option maxHeartbeats 1000000
set_option maxHeartbeats 1000000
namespace BW
open PySem L2 DL
def adj (T : Mat) (a b : Int) : Bool := decide (at2 T (ix a) (ix b) ≠ 2)
inductive Rch (T : Mat) (c : List Int) (a : Int) : Int → Prop
  | refl : Rch T c a a
  | step {x y : Int} : Rch T c a x → y ∈ c → adj T y x = true → Rch T c a y
def grow (T : Mat) (c S : List Int) : List Int := c.filter fun y => S.contains y || S.any fun x => adj T y x
def grown (T : Mat) (c : List Int) : Nat → List Int → List Int
  | 0, S => S
  | n + 1, S => grown T c n (grow T c S)
def pc (T : Mat) (c : List Int) (a : Int) : List Int := grown T c c.length (c.filter fun x => x == a)
theorem adj_symm {T : Mat} (ht : Tab T) {a b : Int} (ha : 1 ≤ a ∧ a ≤ T.length) (hb : 1 ≤ b ∧ b ≤ T.length) : adj T a b = adj T b a := by
  unfold adj
  rw [ht.sy (ix a) (ix b) (by show (a - 1).toNat < _; omega) (by show (b - 1).toNat < _; omega)]
theorem Rch.mem {T : Mat} {c : List Int} {a x : Int} (ha : a ∈ c) (r : Rch T c a x) : x ∈ c := by
  cases r with
  | refl => exact ha
  | step _ h _ => exact h
theorem Rch.trans {T : Mat} {c : List Int} {a x y : Int} (r : Rch T c a x) (q : Rch T c x y) : Rch T c a y := by
  induction q with
  | refl => exact r
  | step _ h1 h2 ih => exact .step ih h1 h2
theorem Rch.symm {T : Mat} (ht : Tab T) {c : List Int} (hw : Wd T.length c) {a x : Int} (ha : a ∈ c) (r : Rch T c a x) : Rch T c x a := by
  induction r with
  | refl => exact .refl
  | @step y z r h1 h2 ih =>
    have hy := r.mem ha
    refine Rch.trans (.step .refl hy ?_) ih
    rw [adj_symm ht (hw _ hy) (hw _ h1)]
    exact h2
theorem Rch.mono {T : Mat} {c d : List Int} (h : ∀ x ∈ c, x ∈ d) {a x : Int} (r : Rch T c a x) : Rch T d a x := by
  induction r with
  | refl => exact .refl
  | step _ h1 h2 ih => exact .step ih (h _ h1) h2
end BW
set_option maxHeartbeats 1000000
namespace DL
open PySem PySem.Spec PyProof.Rows L2
open PySem.W (Frag dataLe AllAlike Sortable EachIs alike alikeAll)
theorem reads_items {h : Heap} : ∀ {ns : List Int} {vs : List Value}, IntsAre vs ns → ReadsAll h vs (ns.map .int) []
  | [], _, .nil => .nil
  | _ :: _, _, .cons i t r => .cons (as := []) (.int i t) (reads_items r)
abbrev pyI (w : List Int) : PyData := .tuple (w.map .int)
theorem reads_isT {P : Program} {w : World} {h : Heap} {k : List Int} {b : Addr} (x : IsT P w h k b) : Reads h (.ref b) (pyI k) [] := by
  obtain ⟨o, items, n, ho, hc, hd, hi⟩ := x
  exact .tuple ho hc hd (reads_items (ints_of_items hi))
abbrev leP : Addr × List Int → Addr × List Int → Bool := dataLe false fun q => pyI q.2
abbrev leI : List Int → List Int → Bool := dataLe false pyI
theorem alike_pyI (a b : List Int) : alike (pyI a) (pyI b) = true := by
  show alikeAll (a.map .int) (b.map .int) = true
  exact PySem.W.alike_ints a b
section
variable {P : Program} {w : World} {A : Around} {E : Value → Shared → Prop} {s : Shared}
theorem refs_each : ∀ (L : List (Addr × List Int)), EachIs (fun u (q : Addr × List Int) => u = Value.ref q.1) (L.map fun q => Value.ref q.1) L
  | [] => .nil
  | q :: L => .cons rfl (refs_each L)
theorem each_refs : ∀ {L : List (Addr × List Int)} {us : List Value}, EachIs (fun u (q : Addr × List Int) => u = Value.ref q.1) us L → us = L.map fun q => Value.ref q.1
  | [], _, .nil => rfl
  | q :: L, _, .cons h t => by rw [List.map_cons, ← each_refs t, h]
end
theorem RlA.tups {K : Frag} {H : Hp} : ∀ {ws : List (List Int)} {vs : List V}, RlA K H vs (ws.map fun w => D.tup (w.map .int)) → ∃ ks : List (Addr × List Int), vs = ks.map (fun p => V.ref p.1) ∧ ws = ks.map (·.2) ∧ ∀ p ∈ ks, SqT K H p.1 (p.2.map V.int)
  | [], _, .nil => ⟨[], rfl, rfl, fun p hp => nomatch hp⟩
  | w :: ws, _, .cons h t => by
    obtain ⟨ks, e1, e2, h3⟩ := RlA.tups t
    obtain ⟨a, vs, rfl, h4, h5⟩ := h.tupE
    have e5 := RlA.ints_v h5
    subst e5
    exact ⟨(a, w) :: ks, by rw [e1]; rfl, by rw [e2]; rfl, fun p hp => by
      rcases List.mem_cons.mp hp with rfl | hp
      · exact h4
      · exact h3 p hp⟩
theorem RlA.ofTups {K : Frag} {H : Hp} : ∀ {ks : List (Addr × List Int)}, (∀ p ∈ ks, SqT K H p.1 (p.2.map V.int)) → RlA K H (ks.map fun p => V.ref p.1) (ks.map fun p => D.tup (p.2.map .int))
  | [], _ => .nil
  | p :: ks, h => .cons (.tup (h p List.mem_cons_self) (RlA.ints _)) (RlA.ofTups fun q hq => h q (List.mem_cons_of_mem _ hq))
end DL
set_option maxHeartbeats 1600000
namespace DL
open PySem PySem.Spec PyProof.Rows L2 PpSet
open PySem.W (Frag)
end DL
set_option maxHeartbeats 1600000
namespace DL
open PySem PySem.Spec PyProof.Rows L2
open PySem.W (Frag)
end DL
namespace DL
open PySem L2
open PySem.W (Frag)
abbrev iRv (t : DE) : DI := fun s Q => t s fun d k => ∃ j : Nat, d = .int j ∧ j ≤ lim ∧ Q (rngD 0 j).reverse k
theorem rev_at {n i : Nat} {d : D} (h : (rngD 0 n).reverse[i]? = some d) : i < n ∧ d = .int ((n : Int) - 1 - i) := by
  have hi : i < n := by
    have := (List.getElem?_eq_some_iff.mp h).1
    rw [List.length_reverse, rngD_len] at this
    exact this
  refine ⟨hi, ?_⟩
  rw [List.getElem?_reverse (by rw [rngD_len]; exact hi), rngD_len] at h
  obtain ⟨h1, rfl⟩ := rngD_at h
  congr 1
  omega
theorem Yl.rev {c : C} {s0 : S} {Hs : Hp} {n : Nat} : Yl c s0 Hs (Itc ((n : Int) - 1) (-1) n) (rngD 0 n).reverse := fun i s σ H rp _ => by
  refine ⟨fun h => by rw [List.length_reverse, rngD_len] at h; exact h, fun d hd => ?_⟩
  obtain ⟨hi, rfl⟩ := rev_at hd
  refine ⟨hi, fun x H' ⟨e1, e2⟩ => ?_⟩
  subst e1 e2
  refine ⟨rp, AdvE.refl, ?_⟩
  rw [show (n : Int) - 1 + (i : Nat) * (-1) = (n : Int) - 1 - i by omega]
  exact .int _
section
variable {X : Cx} {c : C} {tg : Expr}
theorem pid_rv {a : Expr} {t : DE} {p pos p2 pos2 : Pos} (hm : X.mg "range" = none) (hm2 : X.mg "reversed" = none) (ha : PE X a (LE c t)) (hg : Gl X "range" := by rfl) (hg2 : Gl X "reversed" := by rfl) (hs : starEach [a] X.env = (false, eval a X.env) :: starEach [] X.env := by rfl)
    (hs2 : starEach [.Call (.Name "range" p) [a] [] pos] X.env = (false, eval (.Call (.Name "range" p) [a] [] pos) X.env) :: starEach [] X.env := by rfl) :
    PI X tg (.Call (.Name "reversed" p2) [.Call (.Name "range" p) [a] [] pos] [] pos2) (LI c (iRv t)) :=
  PI.weak (pi_revR hg2 hm2 (prg_1 hg hm ha hs) hs2) fun σ H R ⟨s, Z, rp, q, f⟩ => ⟨s, _, rp, q, fun d k ⟨j, hd, hl, hz⟩ v H1 r1 a1 e1 => by
    subst hd
    cases e1.intE
    have hl2 : j < 4611686018427387904 := Nat.lt_of_le_of_lt hl (by decide)
    refine ⟨j, rfl, by omega, by omega, by omega, by omega, ?_⟩
    have e2 : ((j : Int) - 0).toNat = j := by omega
    rw [e2, show (0 : Int) + ((j : Nat) : Int) - 1 = (j : Int) - 1 by omega]
    exact f _ k hz _ H1 r1 a1 Yl.rev⟩
end
end DL
namespace DL
open PySem L2
open PySem.W (Frag)
end DL
set_option maxHeartbeats 1000000
set_option maxHeartbeats 1000000
set_option maxHeartbeats 1000000
namespace BW
open PySem L2 DL
open PySem.W (dataLe AllAlike Sortable dataLt rowLt)
theorem leI_eq (a b : List Int) : leI a b = decide (a ≤ b) := by
  show (!dataLt (.tuple (b.map .int)) (.tuple (a.map .int))) = _
  rw [PySem.W.dataLt_tuple]
  show (!rowLt (b.map .int) (a.map .int)) = _
  rw [PySem.W.dataLt_ints]
  by_cases h : b < a
  · have h' : ¬ a ≤ b := fun r => List.not_lt.mpr r h
    simp [h, h']
  · have h' : a ≤ b := List.not_lt.mp h
    simp [h, h']
theorem sort_pw (L : List (List Int)) : (L.mergeSort leI).Pairwise (· ≤ ·) := by
  refine (List.pairwise_mergeSort (le := leI) (fun a b c h1 h2 => ?_) (fun a b => ?_) L).imp fun h => ?_
  · rw [leI_eq] at *
    exact decide_eq_true (List.le_trans (of_decide_eq_true h1) (of_decide_eq_true h2))
  · rw [leI_eq, leI_eq]
    rcases List.le_total a b with h | h
    · rw [decide_eq_true h]; rfl
    · rw [decide_eq_true h, Bool.or_true]
  · rw [leI_eq] at h
    exact of_decide_eq_true h
theorem sort_same {L M : List (List Int)} (h1 : L.Nodup) (h2 : M.Nodup) (h : ∀ w, w ∈ L ↔ w ∈ M) : L.mergeSort leI = M.mergeSort leI := by
  refine List.Perm.eq_of_pairwise (le := fun a b : List Int => a ≤ b) (fun a b _ _ h1 h2 => List.le_antisymm h1 h2) (sort_pw L) (sort_pw M) ?_
  exact ((List.mergeSort_perm L leI).trans ((List.perm_ext_iff_of_nodup h1 h2).mpr h)).trans (List.mergeSort_perm M leI).symm
def onceL : List (List Int) → List (List Int)
  | [] => []
  | a :: l => if a ∈ l then onceL l else a :: onceL l
theorem mem_once {x : List Int} : ∀ {l : List (List Int)}, x ∈ onceL l ↔ x ∈ l
  | [] => Iff.rfl
  | a :: l => by
    unfold onceL
    by_cases h : a ∈ l
    · rw [if_pos h, mem_once, List.mem_cons]
      exact ⟨.inr, fun q => by rcases q with rfl | q; exact h; exact q⟩
    · rw [if_neg h, List.mem_cons, List.mem_cons, mem_once]
theorem nodup_once : ∀ {l : List (List Int)}, (onceL l).Nodup
  | [] => List.nodup_nil
  | a :: l => by
    unfold onceL
    by_cases h : a ∈ l
    · rw [if_pos h]; exact nodup_once
    · rw [if_neg h]; exact List.nodup_cons.mpr ⟨fun q => h (mem_once.mp q), nodup_once⟩
end BW
namespace BW
open PySem
def Und (T : Mat) (y w : List Int) : Prop := ∃ x : List Int, x.Sublist y ∧ row T x = row T w
theorem wd_sub {n : Nat} {x y : List Int} (h : x.Sublist y) (hy : Wd n y) : Wd n x := fun a ha => hy a (h.subset ha)
theorem exR {T : Mat} (ht : Tab T) {x : List Int} (hx : Wd T.length x) {i : Nat} (hi : i < T.length) (hn : (row T x).getD i 0 < 0) : ∃ z : List Int, z.Sublist x ∧ row T (x ++ [(i : Int) + 1]) = row T z := by
  have C := car_of ht
  have l := lets_of hx
  rw [row_hv hx hi] at hn
  obtain ⟨u, b, v, e, h⟩ := TT.exch2 C hi l (TT.hv_neg_iff C hi l hn)
  obtain ⟨U, R, rfl, rfl, e2⟩ := List.map_eq_append_iff.mp e
  obtain ⟨B, V, rfl, rfl, rfl⟩ := List.map_eq_cons_iff.mp e2
  have hs : (U ++ V).Sublist (U ++ B :: V) := (List.Sublist.refl U).append (List.sublist_cons_self B V)
  refine ⟨U ++ V, hs, ?_⟩
  have wz : Wd T.length (U ++ V) := wd_sub hs hx
  have wx : Wd T.length ((U ++ B :: V) ++ [(i : Int) + 1]) := wd_app hx (wd_one hi)
  refine (row_eq_iff wx wz).mpr ?_
  refine TT.Rw.of_map fun y hy => ?_
  have := h y hy
  have e3 : ((U ++ B :: V) ++ [(i : Int) + 1]).map ix = (U ++ B :: V).map ix ++ [i] := by rw [List.map_append]; simp [ix_succ]
  rw [e3, this, List.map_append]
theorem sub_snoc {x z : List Int} {a : Int} (h : x.Sublist (z ++ [a])) : x.Sublist z ∨ ∃ y, y.Sublist z ∧ x = y ++ [a] := by
  obtain ⟨p, q, rfl, hp, hq⟩ := List.sublist_append_iff.mp h
  cases q with
  | nil => rw [List.append_nil]; exact .inl hp
  | cons b r =>
    have hl := hq.length_le
    have : r = [] := by cases r with | nil => rfl | cons _ _ => simp at hl
    subst this
    have : b = a := by simpa using hq.subset (List.mem_singleton.mpr rfl)
    subst this
    exact .inr ⟨p, hp, rfl⟩
def gr (T : Mat) : List Int → List Int → List Int
  | [], r => r
  | a :: z, r => if r.getD (ix a) 0 < 0 then gr T z (press T r (ix a)) else gr T z r
theorem gr_und {T : Mat} (ht : Tab T) : ∀ {z w : List Int}, Wd T.length z → Wd T.length w → (gr T z (row T w) = one T ↔ Und T z.reverse w)
  | [], w, hz, hw => by
    constructor
    · intro h
      exact ⟨[], .refl _, h.symm⟩
    · rintro ⟨x, hx, e⟩
      have : x = [] := List.eq_nil_of_sublist_nil hx
      subst this
      exact e.symm
  | a :: z, w, hz, hw => by
    have ha := hz a List.mem_cons_self
    have hz' : Wd T.length z := fun b hb => hz b (List.mem_cons_of_mem _ hb)
    obtain ⟨i, rfl⟩ : ∃ i : Nat, a = (i : Int) + 1 := ⟨(a - 1).toNat, by omega⟩
    have hi : i < T.length := by omega
    have hwi : Wd T.length (w ++ [(i : Int) + 1]) := wd_app hw (wd_one hi)
    show ((if (row T w).getD (ix ((i : Int) + 1)) 0 < 0 then gr T z (press T (row T w) (ix ((i : Int) + 1))) else gr T z (row T w)) = one T ↔ _)
    rw [ix_succ, List.reverse_cons]
    by_cases c : (row T w).getD i 0 < 0
    · have e1 : press T (row T w) i = row T (w ++ [(i : Int) + 1]) := by rw [row_snoc, ix_succ]
      rw [if_pos c, e1, gr_und ht hz' hwi]
      constructor
      · rintro ⟨x, hx, e⟩
        refine ⟨x ++ [(i : Int) + 1], hx.append (.refl _), ?_⟩
        rw [row_app e]
        exact row_undo ht hi
      · rintro ⟨x, hx, e⟩
        rcases sub_snoc hx with hx | ⟨y, hy, rfl⟩
        · have wx := wd_sub hx (wd_rev hz')
          obtain ⟨u, hu, e2⟩ := exR ht wx hi (by rw [e]; exact c)
          exact ⟨u, hu.trans hx, by rw [← e2]; exact row_app e⟩
        · exact ⟨y, hy, by rw [← row_app e]; exact (row_undo ht hi).symm⟩
    · rw [if_neg c, gr_und ht hz' hw]
      constructor
      · rintro ⟨x, hx, e⟩
        exact ⟨x, hx.trans (List.sublist_append_left _ _), e⟩
      · rintro ⟨x, hx, e⟩
        rcases sub_snoc hx with hx | ⟨y, hy, rfl⟩
        · exact ⟨x, hx, e⟩
        · have wy := wd_sub hy (wd_rev hz')
          have neg : (row T y).getD i 0 < 0 := by
            have h1 := row_hv (wd_app wy (wd_one hi)) hi
            have h2 := row_hv wy hi
            have e3 : (y ++ [(i : Int) + 1]).map ix = y.map ix ++ [i] := by rw [List.map_append]; simp [ix_succ]
            rw [e3, TT.hv_app_self (car_of ht) hi, ← h2, e] at h1
            have nz := row_nz ht hw hi
            omega
          obtain ⟨u, hu, e2⟩ := exR ht wy hi neg
          exact ⟨u, hu.trans hy, by rw [← e2]; exact e⟩
end BW
namespace BW
open PySem
theorem two_alt {T : Mat} (ht : Tab T) {i j : Nat} (hi : i < T.length) (hj : j < T.length) : ∀ (n : Nat) {x : List Int}, x.length = n → (∀ a ∈ x, a = (i : Int) + 1 ∨ a = (j : Int) + 1) → ∃ (l : Nat) (a b : Int), ((a = (i : Int) + 1 ∧ b = (j : Int) + 1) ∨ (a = (j : Int) + 1 ∧ b = (i : Int) + 1)) ∧ l ≤ n ∧ ∀ p, row T (p ++ x) = row T (p ++ alt a b l)
  | 0, x, hx, _ => by
    have := List.length_eq_zero_iff.mp hx
    subst this
    exact ⟨0, _, _, .inl ⟨rfl, rfl⟩, Nat.le_refl _, fun p => rfl⟩
  | n + 1, x, hx, ha => by
    obtain ⟨y, c, rfl⟩ : ∃ y c, x = y ++ [c] := ⟨x.dropLast, x.getLast (fun z => by rw [z] at hx; cases hx), (List.dropLast_concat_getLast _).symm⟩
    have ly : y.length = n := by simp at hx; exact hx
    obtain ⟨l, a, b, ab, hl, eq⟩ := two_alt ht hi hj n ly fun d hd => ha d (List.mem_append_left _ hd)
    have hc := ha c (List.mem_append_right _ (List.mem_singleton.mpr rfl))
    have step : ∀ p, row T (p ++ (y ++ [c])) = row T (p ++ alt a b l ++ [c]) := fun p => by
      rw [← List.append_assoc]
      exact row_app (eq p)
    have undo : ∀ p, row T (p ++ [c] ++ [c]) = row T p := fun p => by
      rcases hc with rfl | rfl
      · exact row_undo ht hi
      · exact row_undo ht hj
    by_cases e : c = if l % 2 = 0 then a else b
    · refine ⟨l + 1, a, b, ab, by omega, fun p => ?_⟩
      rw [step p, alt_snoc, e, List.append_assoc]
    · cases l with
      | zero =>
        refine ⟨1, c, if c = (i : Int) + 1 then (j : Int) + 1 else (i : Int) + 1, ?_, by omega, fun p => ?_⟩
        · rcases hc with rfl | rfl
          · exact .inl ⟨rfl, if_pos rfl⟩
          · by_cases z : (j : Int) + 1 = (i : Int) + 1
            · exact .inl ⟨z, if_pos z⟩
            · exact .inr ⟨rfl, if_neg z⟩
        · rw [step p]
          show row T (p ++ [] ++ [c]) = row T (p ++ [c])
          rw [List.append_nil]
      | succ l =>
        refine ⟨l, a, b, ab, by omega, fun p => ?_⟩
        have ec : (if l % 2 = 0 then a else b) = c := by
          by_cases m : l % 2 = 0
          · rw [if_pos m]
            rw [if_neg (by omega)] at e
            rcases hc with rfl | rfl <;> rcases ab with ⟨rfl, rfl⟩ | ⟨rfl, rfl⟩ <;> first | rfl | exact absurd rfl e
          · rw [if_neg m]
            rw [if_pos (by omega)] at e
            rcases hc with rfl | rfl <;> rcases ab with ⟨rfl, rfl⟩ | ⟨rfl, rfl⟩ <;> first | rfl | exact absurd rfl e
        rw [step p, alt_snoc, ec, ← List.append_assoc, undo]
theorem alt_sub {a b : Int} {l m : Nat} (h : l ≤ m) : (alt a b l).Sublist (alt a b m) := by
  rw [alt_cut a b h]
  exact List.sublist_append_left _ _
theorem alt_all {a b c : Int} {n : Nat} (h : c ∈ alt a b n) : c = a ∨ c = b := by
  obtain ⟨k, _, rfl⟩ := List.mem_map.mp h
  by_cases z : k % 2 = 0
  · exact .inl (if_pos z)
  · exact .inr (if_neg z)
theorem row_altX {T : Mat} (ht : Tab T) {w : List Int} {i j : Nat} (hi : i < T.length) (hj : j < T.length) (ne : i ≠ j) (h : 0 < at2 T i j) : row T (w ++ alt ((i : Int) + 1) ((j : Int) + 1) (at2 T i j).toNat) = row T (w ++ alt ((j : Int) + 1) ((i : Int) + 1) (at2 T i j).toNat) := by
  have q := pl_alt ht (r := row T w) (row_length T w) hi hj ne h
  unfold pl at q
  unfold row at q ⊢
  rw [List.foldl_append, List.foldl_append]
  exact q
theorem und_turn1 {T : Mat} (ht : Tab T) {u v w : List Int} (h : Tn1 T u v) (g : Und T u w) : Und T v w := by
  obtain ⟨p, s, i, j, hi, hj, ne, b, rfl, rfl⟩ := h
  obtain ⟨x, hx, e⟩ := g
  obtain ⟨x1, x3, rfl, hx1, h3⟩ := List.sublist_append_iff.mp hx
  obtain ⟨x1, x2, rfl, h1, h2⟩ := List.sublist_append_iff.mp hx1
  generalize hm : (at2 T i j).toNat = m at *
  have fin : ∀ z, z.Sublist (alt ((j : Int) + 1) ((i : Int) + 1) m) → row T (x1 ++ x2) = row T (x1 ++ z) → Und T (p ++ alt ((j : Int) + 1) ((i : Int) + 1) m ++ s) w := fun z hz ez =>
    ⟨x1 ++ z ++ x3, (h1.append hz).append h3, (row_app ez).symm.trans e⟩
  by_cases full : x2 = alt ((i : Int) + 1) ((j : Int) + 1) m
  · refine fin _ (List.Sublist.refl _) ?_
    rw [full, ← hm]
    exact row_altX ht hi hj ne b
  · have lt : x2.length < m := by
      have := h2.length_le
      rw [alt_len] at this
      rcases Nat.lt_or_ge x2.length m with c | c
      · exact c
      · exact absurd (h2.eq_of_length (by rw [alt_len]; omega)) full
    obtain ⟨l, a, b', ab, hl, eq⟩ := two_alt ht hi hj x2.length rfl fun a ha => alt_all (h2.subset ha)
    rcases ab with ⟨rfl, rfl⟩ | ⟨rfl, rfl⟩
    · refine fin _ ?_ (eq x1)
      obtain ⟨m, rfl⟩ : ∃ k, m = k + 1 := ⟨m - 1, by omega⟩
      rw [alt_succ]
      exact (alt_sub (by omega)).cons _
    · exact fin _ (alt_sub (by omega)) (eq x1)
theorem und_turn {T : Mat} (ht : Tab T) {u v w : List Int} (h : Tn T u v) (g : Und T u w) : Und T v w := by
  induction h with
  | refl => exact g
  | step a _ ih => exact ih (und_turn1 ht a g)
theorem und_any {T : Mat} (ht : Tab T) {u v w : List Int} (hu : Wd T.length u) (hv : Wd T.length v) (su : Sh T u) (sv : Sh T v) (e : row T u = row T v) (g : Und T u w) : Und T v w :=
  und_turn ht (matsumoto ht _ rfl hu hv su sv e) g
theorem sub_short {T : Mat} (ht : Tab T) : ∀ (n : Nat) {x : List Int}, x.length ≤ n → Wd T.length x → ∃ z, z.Sublist x ∧ Sh T z ∧ row T z = row T x
  | 0, x, hx, hw => by
    have := List.length_eq_zero_iff.mp (Nat.le_zero.mp hx)
    subst this
    obtain ⟨k, hk, h2⟩ := LN.has hw
    have e : k = 0 := by simpa using h2
    subst e
    exact ⟨[], List.Sublist.refl _, hk, rfl⟩
  | n + 1, x, hx, hw => by
    rcases snoc_cases hw with rfl | ⟨y, i, hi, hy, rfl⟩
    · exact sub_short ht n (Nat.zero_le _) hw
    · have ly : y.length ≤ n := by simp at hx; exact hx
      obtain ⟨z, z1, z2, z3⟩ := sub_short ht n ly hy
      have wz := wd_sub z1 hy
      have m := LN.more ht wz z2 hi
      have er : row T (z ++ [(i : Int) + 1]) = row T (y ++ [(i : Int) + 1]) := row_app z3
      by_cases c : ((i : Int) + 1) ∈ fall (row T z)
      · obtain ⟨q, q1, q2⟩ := exR ht wz hi ((mem_fall (by rw [row_length]; exact hi)).mp c)
        have l1 := q1.length_le
        have l2 := z1.length_le
        obtain ⟨r, r1, r2, r3⟩ := sub_short ht n (by omega) (wd_sub q1 wz)
        exact ⟨r, ((r1.trans q1).trans z1).trans (List.sublist_append_left _ _), r2, r3.trans (q2.symm.trans er)⟩
      · rw [if_neg c] at m
        refine ⟨z ++ [(i : Int) + 1], z1.append (List.Sublist.refl _), ?_, er⟩
        show LN T _ _
        rw [List.length_append, List.length_singleton]
        exact m
end BW
namespace BS
open PySem PySem.Spec PyProof.Rows L2
def geo : Nat → Nat
  | 0 => 0
  | n + 1 => geo n * 5 + 1
theorem geo_mod (m : Nat) : ∀ n, lcgN m n = geo n % (m + 1)
  | 0 => (Nat.zero_mod _).symm
  | n + 1 => by
    show (lcgN m n * 5 + 1) % (m + 1) = (geo n * 5 + 1) % (m + 1)
    rw [geo_mod m n, Nat.add_mod, Nat.mul_mod, Nat.mod_mod, ← Nat.mul_mod, ← Nat.add_mod]
theorem geo_add (n : Nat) : ∀ k, geo (n + k) = geo n * 5 ^ k + geo k
  | 0 => by simp [geo]
  | k + 1 => by
    show geo (n + k) * 5 + 1 = geo n * 5 ^ (k + 1) + (geo k * 5 + 1)
    rw [geo_add n k, Nat.pow_succ, Nat.add_mul, Nat.mul_assoc, Nat.add_assoc]
theorem five_four : ∀ k, 5 ^ k % 4 = 1
  | 0 => rfl
  | k + 1 => by rw [Nat.pow_succ, Nat.mul_mod, five_four k]
theorem geo_two : ∀ n, geo n % 2 = n % 2
  | 0 => rfl
  | n + 1 => by
    show (geo n * 5 + 1) % 2 = (n + 1) % 2
    have := geo_two n
    omega
theorem five_odd (k : Nat) : ∃ q, 5 ^ k + 1 = 2 * (2 * q + 1) := by
  have := five_four k
  exact ⟨(5 ^ k + 1) / 4, by omega⟩
theorem odd_out {e a q : Nat} (h : 2 ^ e ∣ a * (2 * q + 1)) : 2 ^ e ∣ a := by
  refine Nat.Coprime.dvd_of_dvd_mul_right ?_ h
  refine Nat.Coprime.pow_left e ?_
  show Nat.gcd 2 (2 * q + 1) = 1
  rw [Nat.gcd_rec, Nat.mul_add_mod]
  rfl
theorem geo_dvd : ∀ (e : Nat) {n : Nat}, 2 ^ e ∣ geo n → 2 ^ e ∣ n
  | 0, n, _ => by simp
  | e + 1, n, h => by
    have h2 : 2 ∣ geo n := Nat.dvd_trans ⟨2 ^ e, by rw [Nat.pow_succ, Nat.mul_comm]⟩ h
    have g := geo_two n
    obtain ⟨k, rfl⟩ : ∃ k, n = k + k := ⟨n / 2, by omega⟩
    obtain ⟨q, hq⟩ := five_odd k
    have e1 : geo (k + k) = 2 * (geo k * (2 * q + 1)) := by
      rw [geo_add, show geo k * 5 ^ k + geo k = geo k * (5 ^ k + 1) by rw [Nat.mul_add, Nat.mul_one], hq, ← Nat.mul_assoc, Nat.mul_comm (geo k) 2, Nat.mul_assoc]
    rw [e1, Nat.pow_succ, Nat.mul_comm (2 ^ e) 2] at h
    have h3 := geo_dvd e (odd_out (Nat.dvd_of_mul_dvd_mul_left (by decide) h))
    rw [Nat.pow_succ, Nat.mul_comm, show k + k = 2 * k by omega]
    exact Nat.mul_dvd_mul_left 2 h3
theorem geo_full : ∀ e : Nat, 2 ^ e ∣ geo (2 ^ e)
  | 0 => by simp
  | e + 1 => by
    obtain ⟨q, hq⟩ := five_odd (2 ^ e)
    obtain ⟨c, hc⟩ := geo_full e
    have e1 : 2 ^ (e + 1) = 2 ^ e + 2 ^ e := by rw [Nat.pow_succ]; omega
    refine ⟨c * (2 * q + 1), ?_⟩
    rw [e1, geo_add, show ∀ a b : Nat, a * b + a = a * (b + 1) from fun a b => by rw [Nat.mul_add, Nat.mul_one], hq, hc, ← e1, Nat.pow_succ]
    simp only [Nat.mul_assoc, Nat.mul_comm, Nat.mul_left_comm]
def Msk (m : Nat) : Prop := ∃ e, 3 ≤ e ∧ e ≤ 13 ∧ m + 1 = 2 ^ e ∧ e % 2 = 1
theorem Msk.odd {m : Nat} (h : Msk m) : m % 2 = 1 := by
  obtain ⟨e, h1, _, h2, _⟩ := h
  obtain ⟨e, rfl⟩ : ∃ k, e = k + 1 := ⟨e - 1, by omega⟩
  rw [Nat.pow_succ] at h2
  omega
theorem Msk.le {m : Nat} (h : Msk m) : m ≤ 8191 := by
  obtain ⟨e, _, h1, h2, _⟩ := h
  have := Nat.pow_le_pow_right (n := 2) (by decide) h1
  have e2 : (2 : Nat) ^ 13 = 8192 := by decide
  omega
theorem lcg_hits {m : Nat} (hm : Msk m) {j : Nat} (hj : j ≤ m) : ∃ b, b ≤ m ∧ lcgN m b = j := by
  obtain ⟨e, _, _, he, _⟩ := hm
  rcases Classical.em (∃ b, b ≤ m ∧ lcgN m b = j) with c | c
  · exact c
  · exfalso
    have nd : ((List.range (m + 1)).map (lcgN m)).Nodup := by
      refine List.pairwise_map.mpr (List.Pairwise.imp_of_mem (fun {a b} ha hb lt eq => ?_) List.pairwise_lt_range)
      have ha := List.mem_range.mp ha
      have hb := List.mem_range.mp hb
      obtain ⟨k, rfl⟩ : ∃ k, b = k + a := ⟨b - a, by omega⟩
      rw [geo_mod, geo_mod, geo_add, he] at eq
      have d : 2 ^ e ∣ geo k * 5 ^ a := by
        have := Nat.sub_mod_eq_zero_of_mod_eq eq.symm
        rw [Nat.add_sub_cancel] at this
        exact Nat.dvd_of_mod_eq_zero this
      have d2 : 2 ^ e ∣ geo k := by
        have o : ∃ q, 5 ^ a = 2 * q + 1 := ⟨5 ^ a / 2, by have := five_four a; omega⟩
        obtain ⟨q, hq⟩ := o
        rw [hq] at d
        exact odd_out d
      have := Nat.le_of_dvd (by omega) (geo_dvd e d2)
      omega
    have q := nat_nodup_len _ ((List.range (m + 1)).erase j) nd fun x hx => by
      obtain ⟨b, hb, rfl⟩ := List.mem_map.mp hx
      have hb := List.mem_range.mp hb
      refine (List.mem_erase_of_ne fun z => c ⟨b, by omega, z⟩).mpr (List.mem_range.mpr ?_)
      rw [geo_mod]
      exact Nat.mod_lt _ (by omega)
    rw [List.length_map, List.length_erase_of_mem (List.mem_range.mpr (by omega)), List.length_range] at q
    omega
theorem lcg_again {m : Nat} (hm : Msk m) (k : Nat) : lcgN m (m + 1 + k) = lcgN m k := by
  obtain ⟨e, _, _, he, _⟩ := hm
  obtain ⟨c, hc⟩ := geo_full e
  rw [geo_mod, geo_mod, geo_add, he, hc, Nat.mul_assoc, Nat.mul_add_mod]
theorem meets_run {m : Nat} (hm : Msk m) (h : Int) {j : Nat} (hj : j ≤ m) : ∃ n, n ≤ m + 12 ∧ runI m (SetTable.bits h) n = j := by
  obtain ⟨a, ha, ea⟩ := lcg_hits hm (runI_le m (SetTable.bits h) 12)
  obtain ⟨b, hb, eb⟩ := lcg_hits hm hj
  by_cases c : a ≤ b
  · refine ⟨12 + (b - a), by omega, ?_⟩
    rw [runI_tail (bits_lt h), ← ea, lcgN_add, show a + (b - a) = b by omega]
    exact eb
  · refine ⟨12 + (m + 1 + b - a), by omega, ?_⟩
    rw [runI_tail (bits_lt h), ← ea, lcgN_add, show a + (m + 1 + b - a) = m + 1 + b by omega, lcg_again hm]
    exact eb
theorem meets_way {m : Nat} (hm : Msk m) (h : Int) {j : Nat} (hj : j ≤ m) : ∃ k, k < 10 * SetTable.turns m ∧ way m h k = j := by
  obtain ⟨n, hn, e⟩ := meets_run hm h hj
  obtain ⟨k, hk, e2⟩ := run_nth m (SetTable.bits h) n
  refine ⟨k, by unfold SetTable.turns; omega, ?_⟩
  show (nth m _ k).j = j
  rw [e2]
  exact e
theorem way_in (m : Nat) (h : Int) (k : Nat) : way m h k ≤ m := by
  have b : SetTable.bits h % (m + 1) ≤ m := Nat.le_of_lt_succ (Nat.mod_lt _ (by omega))
  have r := (runEnd_bd b).1
  have q := nth_in (m := m) k (runAt m (SetTable.bits h % (m + 1)) (SetTable.bits h)) (by
    have := (runEnd_bd b).2.1
    show SetTable.bits h % (m + 1) + (SetTable.runEnd m (SetTable.bits h % (m + 1)) - SetTable.bits h % (m + 1)) ≤ m
    omega)
  exact Nat.le_trans (Nat.le_add_right _ _) q
theorem first_way {m : Nat} (hm : Msk m) (h : Int) {p : Nat → Prop} {j : Nat} (hj : j ≤ m) (pj : p j) : ∃ K, K < 10 * SetTable.turns m ∧ p (way m h K) ∧ ∀ k, k < K → ¬ p (way m h k) := by
  obtain ⟨k, hk, e⟩ := meets_way hm h hj
  obtain ⟨K, h1, h2, h3⟩ := st_least (p := fun k => p (way m h k)) k (by show p (way m h k); rw [e]; exact pj)
  exact ⟨K, Nat.lt_of_le_of_lt h1 hk, h2, h3⟩
end BS
namespace BS
open PySem PySem.Spec PyProof.Rows L2
structure Tb (t : SetTable) (hs : List Int) : Prop where
  up : Ris t.place.toList
  nd : t.dummies = #[]
  len : t.place.toList.length = hs.length
  msk : Msk t.mask
  top : ∀ x ∈ t.place.toList, x ≤ t.mask
  found : ∀ (i : Nat) (g : Int) (j : Nat), hs[i]? = some g → t.place.toList[i]? = some j → ∃ k, way t.mask g k = j ∧ ∀ q, q < k → way t.mask g q ∈ t.place.toList
theorem Tb.gap {t : SetTable} {hs : List Int} (T : Tb t hs) (few : hs.length ≤ t.mask) (g : Int) : ∃ K, K < 10 * SetTable.turns t.mask ∧ way t.mask g K ∉ t.place.toList ∧ ∀ q, q < K → way t.mask g q ∈ t.place.toList := by
  obtain ⟨j, j1, j2⟩ := st_missing t.place.toList (t.mask + 1) (by rw [T.len]; omega)
  obtain ⟨K, k1, k2, k3⟩ := first_way T.msk g (p := fun x => x ∉ t.place.toList) (Nat.le_of_lt_succ j1) j2
  exact ⟨K, k1, k2, fun q hq => Classical.not_not.mp (k3 q hq)⟩
theorem Tb.ahead {t : SetTable} {hs : List Int} (T : Tb t hs) {g : Int} {K i j : Nat} (empty : way t.mask g K ∉ t.place.toList) (hi : hs[i]? = some g) (hj : t.place.toList[i]? = some j) : ∃ q, q < K ∧ way t.mask g q = j := by
  obtain ⟨q, e, b⟩ := T.found i g j hi hj
  have ne : q ≠ K := fun z => by
    rw [← z, e] at empty
    exact empty (List.mem_of_getElem? hj)
  have nl : ¬ K < q := fun z => empty (b K z)
  exact ⟨q, by omega, e⟩
theorem Tb.add {t : SetTable} {hs : List Int} (T : Tb t hs) {g : Int} {K j p : Nat} (hj : way t.mask g K = j) (hp : SetTable.below t.place j = p) (empty : j ∉ t.place.toList) (ahead : ∀ q, q < K → way t.mask g q ∈ t.place.toList) :
    p ≤ hs.length ∧ Tb (t.put j).1 (hs.take p ++ g :: hs.drop p) := by
  have ip := put_place t j
  rw [hp] at ip
  have pl : p ≤ t.place.toList.length := by
    rw [← hp, Array.length_toList]
    exact (below_cut T.up j).1
  have ph : p ≤ hs.length := by rw [← T.len]; exact pl
  have more : ∀ x ∈ t.place.toList, x ∈ (t.put j).1.place.toList := fun x hx => by rw [ip]; exact mem_ins.2 (.inr hx)
  refine ⟨ph, ris_insert T.up fun e => empty (List.mem_of_getElem? (by rw [Array.getElem?_toList]; exact e)), put_dm T.nd j, by rw [ip, len_ins _ pl, len_ins _ ph, T.len], T.msk, fun x hx => ?_, fun i g' j' h1 h2 => ?_⟩
  · rw [ip] at hx
    rcases mem_ins.1 hx with rfl | z
    · rw [← hj]
      exact way_in _ _ _
    · exact T.top x z
  · rw [tins_get hs ph] at h1
    rw [ip, tins_get _ pl] at h2
    have old : ∀ i', hs[i']? = some g' → t.place.toList[i']? = some j' → ∃ k, way t.mask g' k = j' ∧ ∀ q, q < k → way t.mask g' q ∈ (t.put j).1.place.toList := fun i' a b => by
      obtain ⟨k, e, z⟩ := T.found i' g' j' a b
      exact ⟨k, e, fun q hq => more _ (z q hq)⟩
    rcases Nat.lt_trichotomy i p with c | c | c
    · rw [if_pos c] at h1 h2
      exact old i h1 h2
    · rw [if_neg (by omega), if_pos c] at h1 h2
      cases h1
      cases h2
      exact ⟨K, hj, fun q hq => more _ (ahead q hq)⟩
    · rw [if_neg (by omega), if_neg (by omega)] at h1 h2
      exact old (i - 1) h1 h2
theorem free_at {m : Nat} (hm : Msk m) (ow : Array (Option Nat)) (g : Int) {j : Nat} (hj : j ≤ m) (free : oAt ow j = none) :
    ∃ K, SetTable.layClean.free m ow (SetTable.turns m) (SetTable.bits g % (m + 1)) (SetTable.bits g) = some (way m g K) ∧ oAt ow (way m g K) = none ∧ ∀ q, q < K → oAt ow (way m g q) ≠ none := by
  obtain ⟨n, n1, n2⟩ := meets_run hm g hj
  have at_ : way m g (off m (SetTable.bits g % (m + 1)) (SetTable.bits g) n) = j := by
    show (nth m _ _).j = j
    rw [nth_off, itL_run]
    exact n2
  obtain ⟨K, k1, k2, k3⟩ := st_least (p := fun q => oAt ow (way m g q) = none) _ (show oAt ow (way m g (off m (SetTable.bits g % (m + 1)) (SetTable.bits g) n)) = none by rw [at_]; exact free)
  have occ : ∀ q, q < K → (oAt ow (way m g q)).isNone = false := fun q hq => by
    cases z : oAt ow (way m g q) with
    | none => exact absurd z (k3 q hq)
    | some _ => rfl
  exact ⟨K, free_spec m ow (SetTable.turns m) n _ _ K (by unfold SetTable.turns; omega) k1 occ (by show (oAt ow (way m g K)).isNone = true; rw [k2]; rfl), k2, k3⟩
theorem own_step {m : Nat} (hm : Msk m) {done : List Int} {ow : Array (Option Nat)} (O : Own m done ow) (few : done.length ≤ m) (g : Int) :
    ∃ j, SetTable.layClean.free m ow (SetTable.turns m) (SetTable.bits g % (m + 1)) (SetTable.bits g) = some j ∧ Own m (done ++ [g]) (ow.setIfInBounds j (some done.length)) := by
  obtain ⟨ps, l, cover⟩ := O.ps
  obtain ⟨j0, b0, n0⟩ := st_missing ps (m + 1) (by omega)
  have f0 : oAt ow j0 = none := Classical.byContradiction fun z => n0 (cover j0 (by omega) z)
  obtain ⟨K, f1, f2, f3⟩ := free_at hm ow g (Nat.le_of_lt_succ b0) f0
  obtain ⟨j, ej⟩ : ∃ j, way m g K = j := ⟨_, rfl⟩
  have jm : j ≤ m := ej ▸ way_in m g K
  rw [ej] at f1 f2
  have new := oAt_set_self (owner := ow) (j := j) (some done.length) (by rw [O.sz]; omega)
  have rest : ∀ {i}, i ≠ j → oAt (ow.setIfInBounds j (some done.length)) i = oAt ow i := fun n => oAt_set_ne _ n
  have kept : ∀ i, oAt ow i ≠ none → oAt (ow.setIfInBounds j (some done.length)) i ≠ none := fun i hi => by
    rw [rest fun z => hi (by rw [z]; exact f2)]
    exact hi
  refine ⟨j, f1, by rw [Array.size_setIfInBounds]; exact O.sz, fun i k hi e => ?_, fun k hk => ?_, j :: ps, by simp [l], fun i hi e => ?_⟩
  · by_cases c : i = j
    · subst c
      rw [new] at e
      cases e
      exact ⟨g, K, by simp, ej, fun q hq => kept _ (f3 q hq)⟩
    · rw [rest c] at e
      obtain ⟨g', K', z1, z2, z3⟩ := O.at_ i k hi e
      exact ⟨g', K', by rw [List.getElem?_append_left (List.getElem?_eq_some_iff.mp z1).1]; exact z1, z2, fun q hq => kept _ (z3 q hq)⟩
  · by_cases c : k < done.length
    · obtain ⟨i, i1, i2⟩ := O.all k c
      exact ⟨i, i1, by rw [rest fun z => by rw [z, f2] at i2; cases i2]; exact i2⟩
    · have : k = done.length := by simp at hk; omega
      exact ⟨j, jm, by rw [new, this]⟩
  · by_cases c : i = j
    · rw [c]; exact List.mem_cons_self
    · rw [rest c] at e
      exact List.mem_cons_of_mem _ (cover i hi e)
theorem own_fold {m : Nat} (hm : Msk m) : ∀ (more done : List Int) (ow : Array (Option Nat)), Own m done ow → done.length + more.length ≤ m →
    ∃ ow', more.foldl (stepF m) (some (ow, done.length)) = some (ow', (done ++ more).length) ∧ Own m (done ++ more) ow'
  | [], done, ow, O, _ => ⟨ow, by simp, by simpa using O⟩
  | g :: more, done, ow, O, b => by
    rw [List.length_cons] at b
    obtain ⟨j, e, O1⟩ := own_step hm O (by omega) g
    obtain ⟨ow', e2, O2⟩ := own_fold hm more (done ++ [g]) _ O1 (by simp; omega)
    simp only [List.append_assoc, List.singleton_append, List.length_append, List.length_singleton] at e2 O2
    refine ⟨ow', ?_, O2⟩
    rw [List.foldl_cons, stepF_some e, e2, List.length_append]
theorem own_clean {m : Nat} (hm : Msk m) {hs : Array Int} (few : hs.size ≤ m) : ∃ ow, SetTable.layClean m hs = some ow ∧ Own m hs.toList ow := by
  obtain ⟨ow, e, O⟩ := own_fold hm hs.toList [] _ (Own.init m) (by simpa using few)
  refine ⟨ow, ?_, O⟩
  rw [layClean_eq]
  exact congrArg (Option.map (·.1)) e
theorem tb_anew (t : SetTable) {hs : Array Int} {wanted M : Nat} (hw : SetTable.sizeAbove wanted - 1 = M) (hM : Msk M) (few : hs.size ≤ M) :
    ∃ t' ord, t.relaid hs wanted = some (t', ord) ∧ ord.toList.Perm (List.range hs.size) ∧ Tb t' (ord.toList.map fun i => hs.getD i 0) ∧ t'.mask = M ∧ t'.led = t.led ∧ t'.plain = t.plain := by
  obtain ⟨ow, e, O⟩ := own_clean hM few
  have asc := ris_live (fun j => ow.getD j none) (List.range (M + 1)) List.pairwise_lt_range
  have a1 : Ris ((liveOf M ow).map (·.1)) := asc.1
  have a2 : ∀ x ∈ (liveOf M ow).map (·.1), x ∈ List.range (M + 1) := asc.2
  have lv := fun j k => mem_live (j := j) (k := k) O.sz
  have every : ∀ k, k < hs.size → k ∈ (liveOf M ow).map (·.2) := fun k hk => by
    obtain ⟨j, j1, j2⟩ := O.all k (by rw [Array.length_toList]; exact hk)
    exact List.mem_map.mpr ⟨(j, k), (lv j k).2 ⟨j1, j2⟩, rfl⟩
  have size : (liveOf M ow).length = hs.size := by
    refine Nat.le_antisymm ?_ ?_
    · obtain ⟨ps, p1, p2⟩ := O.ps
      have q := nat_nodup_len _ ps (List.Pairwise.imp (fun h => Nat.ne_of_lt h) a1) fun x hx => by
        obtain ⟨y, hy, rfl⟩ := List.mem_map.mp hx
        obtain ⟨b1, b2⟩ := (lv y.1 y.2).1 hy
        exact p2 y.1 b1 (by rw [b2]; simp)
      rw [List.length_map, p1, Array.length_toList] at q
      exact q
    · have q := nat_nodup_len (List.range hs.size) ((liveOf M ow).map (·.2)) List.nodup_range fun k hk => every k (List.mem_range.mp hk)
      rw [List.length_map, List.length_range] at q
      exact q
  refine ⟨tabOf t M ow, ((liveOf M ow).map (·.2)).toArray, by rw [relaid_eq, hw, e]; rfl, perm_range hs.size _ (by show ((liveOf M ow).map (·.2)).length = _; rw [List.length_map]; exact size) every, ⟨a1, rfl, ?_, hM, fun x hx => Nat.le_of_lt_succ (List.mem_range.mp (a2 x hx)), fun i g j h1 h2 => ?_⟩, rfl, rfl, rfl⟩
  · show ((liveOf M ow).map (·.1)).length = (((liveOf M ow).map (·.2)).map fun i => hs.getD i 0).length
    simp only [List.length_map]
  · have h1 : (((liveOf M ow).map (·.2)).map fun i => hs.getD i 0)[i]? = some g := h1
    have h2 : ((liveOf M ow).map (·.1))[i]? = some j := h2
    rw [List.map_map, List.getElem?_map] at h1
    rw [List.getElem?_map] at h2
    obtain ⟨y, hy, e1⟩ := Option.map_eq_some_iff.mp h2
    rw [hy] at h1
    have e2 : hs.getD y.2 0 = g := Option.some.inj h1
    obtain ⟨b1, b2⟩ := (lv y.1 y.2).1 (List.mem_of_getElem? hy)
    obtain ⟨g0, K, z1, z2, z3⟩ := O.at_ y.1 y.2 b1 b2
    have e3 : g0 = g := by
      rw [← e2, Array.getD_eq_getD_getElem?, ← Array.getElem?_toList, z1]
      rfl
    subst e3
    refine ⟨K, z2.trans e1, fun q hq => ?_⟩
    show way M g0 q ∈ (liveOf M ow).map (·.1)
    obtain ⟨k2, hk2⟩ := Option.ne_none_iff_exists'.mp (z3 q hq)
    exact List.mem_map.mpr ⟨(way M g0 q, k2), (lv _ k2).2 ⟨way_in M g0 q, hk2⟩, rfl⟩
theorem size_next {m n : Nat} (hm : Msk m) (h1 : n * 5 < m * 3) (h2 : (n + 1) * 5 ≥ m * 3) (few : n < 4096) : ∃ M, SetTable.sizeAbove (SetTable.grown (n + 1)) - 1 = M ∧ Msk M ∧ SetTable.sizeAbove (SetTable.grown (n + 1)) ≤ sizeLine ∧ (n + 1) * 5 < M * 3 ∧ n + 1 ≤ M := by
  obtain ⟨e, e1, e2, he, odd⟩ := hm
  have go : ∀ (N S M d : Nat), n + 1 = N → SetTable.sizeAbove (SetTable.grown N) = S → S = M + 1 → M + 1 = 2 ^ d → 3 ≤ d → d ≤ 13 → d % 2 = 1 → S ≤ 8192 → N * 5 < M * 3 → N ≤ M → ∃ M, SetTable.sizeAbove (SetTable.grown (n + 1)) - 1 = M ∧ Msk M ∧ SetTable.sizeAbove (SetTable.grown (n + 1)) ≤ sizeLine ∧ (n + 1) * 5 < M * 3 ∧ n + 1 ≤ M := fun N S M d a b c p1 p2 p3 p4 p5 p6 p7 => by
    rw [a, b]
    exact ⟨M, by omega, ⟨d, p2, p3, p1, p4⟩, by rw [sizeLine_eq]; omega, p6, p7⟩
  rcases (by omega : e = 3 ∨ e = 5 ∨ e = 7 ∨ e = 9 ∨ e = 11 ∨ e = 13) with rfl | rfl | rfl | rfl | rfl | rfl
  · have : m = 7 := by have : (2 : Nat) ^ 3 = 8 := by decide
                       omega
    exact go 5 32 31 5 (by omega) (by decide +kernel) rfl (by decide) (by decide) (by decide) (by decide) (by decide) (by decide) (by decide)
  · have : m = 31 := by have : (2 : Nat) ^ 5 = 32 := by decide
                        omega
    exact go 19 128 127 7 (by omega) (by decide +kernel) rfl (by decide) (by decide) (by decide) (by decide) (by decide) (by decide) (by decide)
  · have : m = 127 := by have : (2 : Nat) ^ 7 = 128 := by decide
                         omega
    exact go 77 512 511 9 (by omega) (by decide +kernel) rfl (by decide) (by decide) (by decide) (by decide) (by decide) (by decide) (by decide)
  · have : m = 511 := by have : (2 : Nat) ^ 9 = 512 := by decide
                         omega
    exact go 307 2048 2047 11 (by omega) (by decide +kernel) rfl (by decide) (by decide) (by decide) (by decide) (by decide) (by decide) (by decide)
  · have : m = 2047 := by have : (2 : Nat) ^ 11 = 2048 := by decide
                          omega
    exact go 1229 8192 8191 13 (by omega) (by decide +kernel) rfl (by decide) (by decide) (by decide) (by decide) (by decide) (by decide) (by decide)
  · have : m = 8191 := by have : (2 : Nat) ^ 13 = 8192 := by decide
                          omega
    omega
end BS
set_option maxHeartbeats 1000000
namespace BS
open PySem PySem.Spec PyProof.Rows L2
structure SB (P : Program) (w : World) (h : Heap) (a : Addr) (L : List (Addr × List Int)) (es : Array (Int × Value)) (ep : Nat) (t : SetTable) : Prop where
  obj : ∃ o, h.get? a = some o ∧ o.ExactSet ∧ o.data = .set es ep t
  ent : es.toList = rowsOf P w L
  tbl : Tb t (L.map fun p => thash P w p.2)
  once : (L.map (·.2)).Nodup
  keys : ∀ p ∈ L, IsT P w h p.2 p.1
  pl : t.plain = true
  ld : w.params.followText "set-order" = true ∨ t.led = true
  roomy : L.length * 5 < t.mask * 3
  small : L.length < 4096
section
variable {P : Program} {w : World} {A : Around} {E : Value → Shared → Prop} {s : Shared} {a : Addr} {L : List (Addr × List Int)} {es : Array (Int × Value)} {ep : Nat} {t : SetTable}
theorem ent_size (e : es.toList = rowsOf P w L) : es.size = L.length := by
  have := congrArg List.length e
  unfold rowsOf at this
  rwa [Array.length_toList, List.length_map] at this
theorem fits_of {hs : List Int} (T : Tb t hs) {n : Nat} (e : n = hs.length) (few : n ≤ t.mask) : t.fits n = true := by
  have l := T.len
  rw [Array.length_toList] at l
  unfold SetTable.fits SetTable.fill
  rw [T.nd, Bool.and_eq_true, beq_iff_eq, decide_eq_true_eq]
  exact ⟨by rw [l, e], by show t.place.size + 0 ≤ t.mask; omega⟩
theorem SB.fit (S : SB P w s.heap a L es ep t) : t.fits es.size = true := by
  have := S.roomy
  exact fits_of S.tbl (by rw [List.length_map]; exact ent_size S.ent) (by rw [ent_size S.ent]; omega)
theorem SB.get (S : SB P w s.heap a L es ep t) {i : Nat} {p : Addr × List Int} (h : L[i]? = some p) : es[i]? = some (thash P w p.2, Value.ref p.1) := by
  rw [← Array.getElem?_toList, S.ent]
  unfold rowsOf
  rw [List.getElem?_map, h]; rfl
theorem SB.way_of (S : SB P w s.heap a L es ep t) {i : Nat} {p : Addr × List Int} (h : L[i]? = some p) : ∃ j, t.place.toList[i]? = some j := by
  have l := S.tbl.len
  rw [List.length_map] at l
  exact ⟨_, List.getElem?_eq_getElem (by rw [l]; exact (List.getElem?_eq_some_iff.mp h).1)⟩
abbrev st0 (t : SetTable) (g : Int) : SetTable.Probe := runAt t.mask (SetTable.bits g % (t.mask + 1)) (SetTable.bits g)
theorem no_dummy (m : Nat) : ∀ (n : Nat) {p : SetTable.Probe}, p.dummy = none → (nth m p n).dummy = none
  | 0, _, h => h
  | n + 1, p, h => no_dummy m n (p := adv m p) (by unfold adv; split <;> exact h)
theorem look (S : SB P w s.heap a L es ep t) {x : Addr} {k : List Int} (hx : IsT P w s.heap k x) (hu : A.units < cLine) {K : Nat} (Kf : K < 10 * SetTable.turns t.mask) (gap : way t.mask (thash P w k) K ∉ t.place.toList) (full : ∀ q, q < K → way t.mask (thash P w k) q ∈ t.place.toList) {Q : SetFound → Shared → Prop}
    (there : k ∈ L.map (·.2) → Q (.there none) s) (away : k ∉ L.map (·.2) → Q (.free (way t.mask (thash P w k) K) false) s) :
    ∀ (n c : Nat) (stand : Option SetTable.Probe), stand.getD (t.probeStart (thash P w k)) = nth t.mask (st0 t (thash P w k)) c → c ≤ K → K - c < n → (∀ (q i : Nat) (p : Addr × List Int), q < c → t.place.toList[i]? = some (way t.mask (thash P w k) q) → L[i]? = some p → p.2 ≠ k) →
      wpAny (model P w) A (setSearchFrom a (.ref x) (thash P w k) true n stand) Q E s
  | 0, c, _, _, _, hf, _ => absurd hf (Nat.not_lt_zero _)
  | n + 1, c, stand, hst, hc, hf, seen => by
    obtain ⟨o, ho, hex, hd⟩ := S.obj
    have shift : ∀ q, nth t.mask (nth t.mask (st0 t (thash P w k)) c) q = nth t.mask (st0 t (thash P w k)) (c + q) := fun q => (nth_add t.mask c _ q).symm
    have wsh : ∀ q, (nth t.mask (nth t.mask (st0 t (thash P w k)) c) q).j = way t.mask (thash P w k) (c + q) := fun q => congrArg SetTable.Probe.j (shift q)
    have hashAt : ∀ {i : Nat} {p : Addr × List Int}, L[i]? = some p → ((es[i]?.map (·.1)).getD 0) = thash P w p.2 := fun hp => by rw [S.get hp]; rfl
    have told := go_spec t S.tbl.up S.tbl.nd (fun i => (es[i]?.map (·.1)).getD 0) (thash P w k) (10 * SetTable.turns t.mask) (K - c) (nth t.mask (st0 t (thash P w k)) c) (no_dummy t.mask c rfl) (by omega)
      (fun q hq => by rw [wsh]; exact full _ (by omega)) (by rw [wsh, Nat.add_sub_cancel' hc]; exact gap)
    rw [setSearchFrom_succ]
    refine wpAny_bind (wpAny_setState_of ho hd S.fit ?_)
    dsimp only
    refine wp_if_neg (by unfold SetTable.gaveWay; rw [S.tbl.msk.odd]; decide) ?_
    try refine wpAny_bind (wpAny_pure ?_)
    rcases told with ⟨q, i, hq, hi, hh, before, pr⟩ | ⟨none_, pr⟩
    · -- an entry of this hash
      rw [show t.probe (fun i => (es[i]?.map (·.1)).getD 0) (thash P w k) (stand.getD (t.probeStart (thash P w k))) = some (.candidate (way t.mask (thash P w k) (c + q)) i (nth t.mask (st0 t (thash P w k)) (c + (q + 1)))) by rw [hst, ← wsh, ← shift]; exact pr]
      dsimp only
      rw [wsh] at hi
      have il : i < L.length := by
        have l := S.tbl.len
        rw [List.length_map] at l
        rw [← l]
        exact (List.getElem?_eq_some_iff.mp hi).1
      obtain ⟨p, hp⟩ : ∃ p, L[i]? = some p := ⟨_, List.getElem?_eq_getElem il⟩
      have pm := List.mem_of_getElem? hp
      have live : t.slot (way t.mask (thash P w k) (c + q)) = .live i := slot_live S.tbl.up hi
      have rest : wpAny (model P w) A (searchRest a (.ref x) (thash P w k) true n es t (way t.mask (thash P w k) (c + q)) i (nth t.mask (st0 t (thash P w k)) (c + (q + 1)))) Q E s := by
        unfold searchRest
        rw [S.get hp]
        dsimp only
        refine wpAny_bind (wpAny_holding (wpAny_eqBool_tuple hu (S.keys p pm) hx ?_))
        refine wpAny_bind (wpAny_setState_of ho hd S.fit ?_)
        dsimp only
        by_cases same : p.2 = k
        · exact wp_if_pos (by simp [same]) (wpAny_pure (there (List.mem_map.mpr ⟨p, pm, same⟩)))
        · refine wp_if_neg (by simp [same]) ?_
          try refine wpAny_bind (wpAny_pure ?_)
          rw [sameMem]
          dsimp only
          simp only [if_true, live, S.get hp]
          refine wpAny_bind (wpAny_isSame_ref_self (wpAny_bind (wpAny_pure ?_)))
          simp only [if_true]
          refine wp_if_neg (by simp [same]) ?_
          refine look S hx hu Kf gap full there away n (c + (q + 1)) _ rfl (by omega) (by omega) fun q' i' p' hq' hi' hp' e => ?_
          by_cases c1 : q' < c
          · exact seen q' i' p' c1 hi' hp' e
          · by_cases c2 : q' < c + q
            · refine before (q' - c) i' (by omega) (by rw [wsh, show c + (q' - c) = q' by omega]; exact hi') ?_
              show ((es[i']?.map (·.1)).getD 0) = _
              rw [hashAt hp', e]
            · have : q' = c + q := by omega
              subst this
              have s2 := slot_live S.tbl.up hi'
              rw [live] at s2
              injection s2 with s2
              subst s2
              rw [hp] at hp'
              cases hp'
              exact same e
      by_cases hl : t.led = true
      · refine wp_if_neg (by simp [hl]) ?_
        try refine wpAny_bind (wpAny_pure ?_)
        exact rest
      · refine wp_if_pos (by simp [hl]) (wpAny_bind (seen_tup hx (fun y hy => ?_) ?_))
        · obtain ⟨z, hz, rfl⟩ := List.mem_map.mp hy
          have hz1 : z ∈ es.toList := by
            have : z ∈ es ∧ z.1 = thash P w k := by simpa using hz
            simpa using this.1
          rw [S.ent] at hz1
          obtain ⟨p2, hp2, rfl⟩ := List.mem_map.mp hz1
          exact ⟨p2.2, p2.1, rfl, S.keys p2 hp2⟩
        · refine wp_if_neg (by decide) ?_
          try refine wpAny_bind (wpAny_pure ?_)
          exact rest
    · -- the empty slot
      rw [show t.probe (fun i => (es[i]?.map (·.1)).getD 0) (thash P w k) (stand.getD (t.probeStart (thash P w k))) = some (.empty (way t.mask (thash P w k) K) none) by
        have : way t.mask (thash P w k) K = (nth t.mask (nth t.mask (st0 t (thash P w k)) c) (K - c)).j := by rw [wsh, Nat.add_sub_cancel' hc]
        rw [hst, this]; exact pr]
      dsimp only
      refine wpAny_pure (away fun hm => ?_)
      obtain ⟨p, hp, e⟩ := List.mem_map.mp hm
      obtain ⟨i, il, ei⟩ := List.getElem_of_mem hp
      have hi : L[i]? = some p := by rw [List.getElem?_eq_getElem il, ei]
      obtain ⟨j, hj⟩ := S.way_of hi
      obtain ⟨q, q1, q2⟩ := S.tbl.ahead gap (i := i) (j := j) (by rw [List.getElem?_map, hi, ← e]; rfl) hj
      rw [← q2] at hj
      by_cases c1 : q < c
      · exact seen q i p c1 hj hi e
      · refine none_ (q - c) i (by omega) (by rw [wsh, show c + (q - c) = q by omega]; exact hj) ?_
        show ((es[i]?.map (·.1)).getD 0) = _
        rw [hashAt hi, e]
theorem look_all (S : SB P w s.heap a L es ep t) {x : Addr} {k : List Int} (hx : IsT P w s.heap k x) (hu : A.units < cLine) {Q : SetFound → Shared → Prop}
    (there : k ∈ L.map (·.2) → Q (.there none) s)
    (away : ∀ K, k ∉ L.map (·.2) → way t.mask (thash P w k) K ∉ t.place.toList → (∀ q, q < K → way t.mask (thash P w k) q ∈ t.place.toList) → Q (.free (way t.mask (thash P w k) K) false) s) :
    wpAny (model P w) A (setSearch a (.ref x) (thash P w k) true) Q E s := by
  have r := S.roomy
  obtain ⟨K, k1, k2, k3⟩ := S.tbl.gap (by rw [List.length_map]; omega) (thash P w k)
  have m := S.tbl.msk.le
  have big : K < 100000 := by unfold SetTable.turns at k1; omega
  unfold setSearch
  exact look S hx hu k1 k2 k3 there (fun n => away K n k2 k3) 100000 0 none rfl (Nat.zero_le _) (by omega) fun q i p hq => absurd hq (Nat.not_lt_zero _)
theorem larger {o : Obj} (ho : s.heap.get? a = some o) (hex : o.ExactSet) (hd : o.data = .set es ep t) (ent : es.toList = rowsOf P w L) (fit : t.fits es.size = true) (once : (L.map (·.2)).Nodup) (keys : ∀ p ∈ L, IsT P w s.heap p.2 p.1) (pl : t.plain = true)
    (ld : w.params.followText "set-order" = true ∨ t.led = true) (few : L.length < 4096) {wanted M : Nat} (hw : SetTable.sizeAbove wanted - 1 = M) (hM : Msk M) (hs : SetTable.sizeAbove wanted ≤ sizeLine) (roomy : L.length * 5 < M * 3) {Q : Unit → Shared → Prop}
    (fin : ∀ h' L' es' ep' t', Heap.SameBut a s.heap h' → SB P w h' a L' es' ep' t' → L'.Perm L → Q () { s with heap := h' }) : wpAny (model P w) A (setRelay a wanted) Q E s := by
  have sz := ent_size ent
  obtain ⟨t', ord, e, perm, T, m1, m2, m3⟩ := tb_anew t (hs := es.map (·.1)) (wanted := wanted) hw hM (by rw [Array.size_map, sz]; omega)
  rw [Array.size_map, sz] at perm
  obtain ⟨L', r1, r2, r3⟩ := order_rows L es ord ent perm
  rw [← r3] at T
  have sz' : (ord.filterMap (es[·]?)).size = L.length := by rw [ent_size r1, r2.length_eq]
  rw [setRelay_eq]
  refine wpAny_bind (wpAny_setState_of ho hd fit ?_)
  dsimp only
  refine wp_if_neg (by omega) ?_
  try refine wpAny_bind (wpAny_pure ?_)
  rw [e]
  dsimp only
  refine wpAny_bind (wp_if_neg (by rw [sz', sz]; simp) ?_)
  try refine wpAny_bind (wpAny_pure ?_)
  refine wpAny_pure ?_
  dsimp only
  refine wpAny_storeSet_of ho hd ?_ (by rw [sz', sizeLine_eq]; omega)
  have but : Heap.SameBut a s.heap (s.heap.update a (Obj.putSet (ord.filterMap (es[·]?)) t')) := .update ..
  refine fin _ L' _ (ep + 1) t' but ⟨⟨_, store_at ho hd, ⟨hex.1, hex.2.1, hex.2.2⟩, rfl⟩, r1, T, (r2.map (·.2)).nodup_iff.mpr once, fun p hp => isT_same (keys p (r2.mem_iff.mp hp)) ho hd but, by rw [m3]; exact pl, by rw [m2]; exact ld, by rw [r2.length_eq, m1]; exact roomy, by rw [r2.length_eq]; exact few⟩ r2
theorem one_more (S : SB P w s.heap a L es ep t) {x : Addr} {k : List Int} (hx : IsT P w s.heap k x) (hu : A.units < cLine) (few : L.length + 1 < 4096) {Q : Bool → Shared → Prop}
    (fin : ∀ b h' L' es' ep' t', Heap.SameBut a s.heap h' → SB P w h' a L' es' ep' t' → (k ∈ L.map (·.2) → L' = L) → (k ∉ L.map (·.2) → L'.Perm ((x, k) :: L)) → Q b { s with heap := h' }) :
    wpAny (model P w) A (setAddHashed a (.ref x) (thash P w k)) Q E s := by
  obtain ⟨o, ho, hex, hd⟩ := S.obj
  have sz := ent_size S.ent
  unfold setAddHashed
  refine wpAny_holding ?_
  rw [show (100000 : Nat) = 99999 + 1 from rfl, setAddHashedIn_succ]
  refine wpAny_bind (wpAny_setState_of ho hd S.fit ?_)
  dsimp only
  refine wp_if_neg (by simp [byScan, Value.scannable]) ?_
  try refine wpAny_bind (wpAny_pure ?_)
  refine wpAny_bind (look_all S hx hu (fun hm => ?_) fun K hm gap full => ?_)
  · dsimp only
    exact wpAny_pure (fin false s.heap L es ep t (.refl a s.heap) S (fun _ => rfl) fun z => absurd hm z)
  · dsimp only
    refine wpAny_bind (wpAny_setState_of ho hd S.fit ?_)
    dsimp only
    obtain ⟨j, ej⟩ : ∃ j, way t.mask (thash P w k) K = j := ⟨_, rfl⟩
    rw [ej] at gap ⊢
    obtain ⟨p, ep'⟩ : ∃ p, SetTable.below t.place j = p := ⟨_, rfl⟩
    obtain ⟨hp, T1⟩ := S.tbl.add ej ep' gap full
    have put2 : (t.put j).2 = p := ep'
    have mask1 : (t.put j).1.mask = t.mask := rfl
    have pl1 : (t.put j).1.plain = true := S.pl
    have ld1 : w.params.followText "set-order" = true ∨ (t.put j).1.led = true := S.ld
    generalize t.put j = pt at T1 put2 mask1 pl1 ld1 ⊢
    obtain ⟨t1, p'⟩ := pt
    dsimp only at T1 put2 mask1 pl1 ld1 ⊢
    subst put2
    first
      | (refine wpAny_bind ?_; refine wp_if_pos pl1 ?_; refine hashBy_tup hx ?_)
      | refine wp_if_pos pl1 (wpAny_bind (hashBy_tup hx ?_))
    simp only [if_true]
    obtain ⟨L1, eL⟩ : ∃ L1, L1 = L.take p' ++ (x, k) :: L.drop p' := ⟨_, rfl⟩
    have ent1 : (SetTable.insertAt es p' (thash P w k, Value.ref x)).toList = rowsOf P w L1 := by
      rw [SetTable.toList_insertAt, eL, rows_put, S.ent]
    have perm : L1.Perm ((x, k) :: L) := by rw [eL]; exact put_perm L p' (x, k)
    have len1 : L1.length = L.length + 1 := perm.length_eq
    rw [show (L.map fun p => thash P w p.2).take p' ++ thash P w k :: (L.map fun p => thash P w p.2).drop p' = L1.map fun p => thash P w p.2 by rw [eL, List.map_append, List.map_cons, List.map_take, List.map_drop]] at T1
    have sz1 := ent_size ent1
    generalize SetTable.insertAt es p' (thash P w k, Value.ref x) = es1 at ent1 sz1 ⊢
    refine wpAny_bind (wpAny_storeSet_of ho hd ?_ (by rw [sz1, len1, sizeLine_eq]; omega))
    have but : Heap.SameBut a s.heap (s.heap.update a (Obj.putSet es1 t1)) := .update ..
    have ho1 := store_at (es' := es1) (t' := t1) ho hd
    generalize s.heap.update a (Obj.putSet es1 t1) = h1 at but ho1 ⊢
    have once1 : (L1.map (·.2)).Nodup := (perm.map (·.2)).nodup_iff.mpr (by rw [List.map_cons]; exact List.nodup_cons.mpr ⟨hm, S.once⟩)
    have keys1 : ∀ q ∈ L1, IsT P w h1 q.2 q.1 := fun q hq => by
      rcases List.mem_cons.mp (perm.mem_iff.mp hq) with rfl | z
      · exact isT_same hx ho hd but
      · exact isT_same (S.keys q z) ho hd but
    have fill : t1.fill = L.length + 1 := by
      have l := T1.len
      rw [Array.length_toList, List.length_map, len1] at l
      unfold SetTable.fill
      rw [T1.nd, l]; rfl
    have full1 : t1.tooFull = decide ((L.length + 1) * 5 ≥ t.mask * 3) := by
      unfold SetTable.tooFull
      rw [fill, mask1]
    have roomy := S.roomy
    by_cases hf : (L.length + 1) * 5 ≥ t.mask * 3
    · rw [decide_eq_true hf] at full1
      obtain ⟨M, s1, s2, s3, s4, s5⟩ := size_next S.tbl.msk S.roomy hf S.small
      have go : wpAny (model P w) A (setRelay a (SetTable.grown (es.size + 1))) (fun _ s' => wpAny (model P w) A (pure true) Q E s') E { s with heap := h1 } := by
        rw [sz]
        refine larger (s := { s with heap := h1 }) ho1 ⟨hex.1, hex.2.1, hex.2.2⟩ rfl ent1 (fits_of T1 (by rw [List.length_map]; exact sz1) (by rw [sz1, len1, mask1]; have := S.tbl.msk; obtain ⟨e, e1, _, he, _⟩ := this; have : 2 ^ 3 ≤ 2 ^ e := Nat.pow_le_pow_right (by decide) e1; omega)) once1 keys1 pl1 ld1 (by omega) s1 s2 s3 (by rw [len1]; exact s4) ?_
        intro h2 L2 es2 ep2 t2 but2 S2 pm2
        exact wpAny_pure (fin true h2 L2 es2 ep2 t2 (but.trans but2) S2 (fun z => absurd z hm) fun _ => pm2.trans perm)
      first
        | exact wpAny_bind (wp_if_pos (by simp [full1]) go)
        | exact wp_if_pos (by simp [full1]) (wpAny_bind go)
    · rw [decide_eq_false hf] at full1
      have last := fin true h1 L1 es1 (ep + 1) t1 but ⟨⟨_, ho1, ⟨hex.1, hex.2.1, hex.2.2⟩, rfl⟩, ent1, T1, once1, keys1, pl1, ld1, by rw [len1, mask1]; omega, by omega⟩ (fun z => absurd z hm) fun _ => perm
      first
        | exact wp_if_neg (by simp [full1]) (wpAny_pure last)
        | exact wpAny_bind (wp_if_neg (by simp [full1]) (wpAny_pure (wpAny_pure last)))
end
end BS
set_option maxHeartbeats 3200000
namespace BS
open PySem PySem.Spec PyProof.Rows L2
open PySem.W (Frag dataLe AllAlike Sortable EachIs alike alikeAll)
section
variable {P : Program} {w : World} {A : Around} {E : Value → Shared → Prop} {s : Shared}
theorem SB.still {h h' : Heap} {a : Addr} {L : List (Addr × List Int)} {es : Array (Int × Value)} {ep : Nat} {t : SetTable} (S : SB P w h a L es ep t) (ha : ∀ o, h.get? a = some o → h'.get? a = some o) (hk : ∀ p ∈ L, IsT P w h' p.2 p.1) : SB P w h' a L es ep t :=
  { S with obj := let ⟨o, ho, r⟩ := S.obj; ⟨o, ha o ho, r⟩, keys := hk }
abbrev fresh0 (w : World) : SetTable := .fresh 0 0 (!w.params.followText "set-order")
abbrev set0 (w : World) : Obj := { cls := .type "set", dict := none, data := .set #[] 0 (fresh0 w) }
theorem sb_new {h : Heap} {a : Addr} (ho : h.get? a = some (set0 w)) : SB P w h a [] #[] 0 (fresh0 w) :=
  ⟨⟨_, ho, ⟨rfl, rfl, rfl⟩, rfl⟩, rfl, ⟨List.Pairwise.nil, rfl, rfl, ⟨3, by decide, by decide, rfl, rfl⟩, fun x hx => (nomatch hx), fun i g j hi => (nomatch hi)⟩, List.nodup_nil, fun p hp => (nomatch hp), rfl, by
    show _ ∨ (!w.params.followText "set-order") = true
    cases w.params.followText "set-order" <;> simp, by show 0 * 5 < 7 * 3; decide, by decide⟩
theorem upd_loop {I : Addr} {fp wr : List Addr} {G : Array GenState → Array GenState → Prop} {n : Nat} {Pv : Nat → Value → Prop} {St : Nat → Shared → Prop} {R : Result → Shared → Prop}
    (W : WalksS P w A.in1 I fp wr G n Pv St) (a : Addr) (out : a ∉ fp) (ks : List (Addr × List Int)) (hn : n = ks.length) (few : ks.length < 4096) (val : ∀ i v, Pv i v → ∃ p, ks[i]? = some p ∧ v = .ref p.1)
    (h0 : Heap) (hk : ∀ p ∈ ks, IsT P w h0 p.2 p.1) (a0 : h0.get? a = none) (wr0 : ∀ b ∈ wr, h0.get? b = none) (hu : A.in1.units < cLine) :
    ∀ (k i : Nat) (s : Shared), n - i = k → i ≤ n → St i s → (∀ b o, h0.get? b = some o → s.heap.get? b = some o) → (∃ L es ep t, SB P w s.heap a L es ep t ∧ Got ks i L) →
      (∀ s' L es ep t, Moved (a :: wr) G s s' → SB P w s'.heap a L es ep t → Got ks n L → (∀ b o, h0.get? b = some o → s'.heap.get? b = some o) → R (.ok (.ret .none)) s') →
      codeAny (model P w) A (.builtin "set.update.loop" ⟨[.ref a, .ref I], []⟩) R s
  | 0, i, s, hki, hi, st, old, ⟨L, es, ep, t, S, g⟩, done => by
    have e : i = n := by omega
    subst e
    refine codeAny_builtin F.entry_set_update_loop ?_
    rw [Around.under_plainId F.plain_set_update_loop]
    refine show wpAny _ A.in1 (pyNext (.ref I) >>= _) _ _ s from wpAny_bind (W.done s _ _ st fun s' mv => ?_)
    refine show wpAny _ A.in1 (ret Value.none) _ _ s' from wpAny_pure ?_
    have old' : ∀ b o, h0.get? b = some o → s'.heap.get? b = some o := fun b o e => mv.heap b o (fun z => by rw [wr0 b z] at e; cases e) (old b o e)
    refine done s' L es ep t (mv.mono fun b hb => List.mem_cons_of_mem _ hb) (S.still (fun o e => mv.heap a o (fun z => out (W.sub _ z)) e) fun p hp => isT_keep (hk p (List.mem_of_mem_take (g.sub p hp))) old') g old'
  | k + 1, i, s, hki, hi, st, old, ⟨L, es, ep, t, S, g⟩, done => by
    have il : i < n := by omega
    refine codeAny_builtin F.entry_set_update_loop ?_
    rw [Around.under_plainId F.plain_set_update_loop]
    refine show wpAny _ A.in1 (pyNext (.ref I) >>= _) _ _ s from wpAny_bind (W.item i s _ _ il st fun v s' hv st' mv => ?_)
    obtain ⟨p, hp, rfl⟩ := val i v hv
    have old' : ∀ b o, h0.get? b = some o → s'.heap.get? b = some o := fun b o e => mv.heap b o (fun z => by rw [wr0 b z] at e; cases e) (old b o e)
    have S' : SB P w s'.heap a L es ep t := S.still (fun o e => mv.heap a o (fun z => out (W.sub _ z)) e) fun q hq => isT_keep (hk q (List.mem_of_mem_take (g.sub q hq))) old'
    have hx : IsT P w s'.heap p.2 p.1 := isT_keep (hk p (List.mem_of_getElem? hp)) old'
    refine show wpAny _ A.in1 (holding [Value.ref p.1] (setAdd a (.ref p.1)) >>= _) _ _ s' from wpAny_bind (wpAny_holding ?_)
    unfold setAdd
    refine wpAny_holding (wpAny_bind (wpAny_pyHash_tuple hu hx ?_))
    have gl := g.len
    refine one_more (s := { s' with toks := s'.toks + (p.2.length + 1) }) S' hx hu (by omega) fun b h' L' es' ep' t' but S2 c1 c2 => ?_
    have g' : Got ks (i + 1) L' := (Classical.em (p.2 ∈ L.map (·.2))).elim (fun c => by rw [c1 c]; exact g.same hp c) fun c => g.more hp (c2 c)
    have old2 : ∀ b o, h0.get? b = some o → h'.get? b = some o := fun b o e => (but.2 b fun z => by rw [z, a0] at e; cases e).trans (old' b o e)
    refine wpAny_pure ⟨plainId_quiet F.plain_set_update_loop _, upd_loop W a out ks hn few val h0 hk a0 wr0 hu k (i + 1) _ (by omega) il (W.frame _ s' _ _ st' (Nat.le_add_right _ _) fun b hb o e => (but.2 b fun z => out (by rw [← z]; exact hb)).trans e) old2 ⟨L', es', ep', t', S2, g'⟩ fun s2 L2 es2 ep2 t2 mv2 S3 g3 old3 => done s2 L2 es2 ep2 t2 (Moved.trans W.gtrans ((mv.mono fun b hb => List.mem_cons_of_mem _ hb).then_heap (Nat.le_add_right _ _) fun b o hb e => (but.2 b fun z => hb (by rw [z]; exact List.mem_cons_self)).trans e) mv2) S3 g3 old3⟩
theorem init_fill {S l : Addr} {items : Array Value} (ks : List (Addr × List Int)) {Q : PySem.Fin → Shared → Prop} (calm : A.handled = none) {h0 : Heap} (hS : s.heap.get? S = some (set0 w)) (S0 : h0.get? S = none) (le : s.heap.objs.size = S + 1) (old : ∀ b o, h0.get? b = some o → s.heap.get? b = some o) (new : ∀ b, S ≤ b → h0.get? b = none)
    (hl : s.heap.IsList l items) (lS : l < S) (its : items.toList = ks.map fun p => Value.ref p.1) (keys : ∀ p ∈ ks, IsT P w h0 p.2 p.1) (few : ks.length < 4096) (hu : A.in1.units < cLine)
    (fin : ∀ (h' : Heap) (tk : Nat) L es ep t, SB P w h' S L es ep t → Got ks ks.length L → (∀ b o, h0.get? b = some o → h'.get? b = some o) → Q (.done (.ret .none)) { s with heap := h', toks := tk }) :
    wpAny (model P w) A (Builtin.«set.__init__» ⟨[.ref S, .ref l], []⟩) Q E s := by
  have size : items.size = ks.length := by
    have := congrArg List.length its
    rwa [Array.length_toList, List.length_map] at this
  have tyS : s.TypeIs (.ref S) "set" := ⟨_, hS, rfl⟩
  have hl0 := hl
  obtain ⟨ol, hol, hcl, nl, hdl⟩ := hl0
  obtain ⟨ocls, odict, odata, oslots⟩ := ol
  dsimp only at hcl hdl
  subst hcl hdl
  have nd : (Value.type "list" == Value.type "dict") = false := by decide
  have q1 := F.sub_list_set
  have q2 := F.sub_list_frozenset
  unfold Builtin.«set.__init__» noKeywords Builtin.Frozenset.updateFrom
  generalize eI : pyIter = itr
  wp_walk
  subst eI
  refine wpAny_pyIter_list (items := items) hl ?_
  refine wpAny_bind (wpAny_runValue ?_)
  have ne : l ≠ s.heap.objs.size := by rw [le]; exact Nat.ne_of_lt (Nat.lt_succ_of_lt lS)
  refine upd_loop ((Walks.list (by simp [calm]) s.heap.objs.size l ne items).toS) S (fun z => ?_) ks size few (fun i v hv => ?_) h0 keys S0 (fun b hb => ?_) hu (items.size - 0) 0 _ (by omega) (Nat.zero_le _) ⟨⟨_, Heap.get?_push_size _ rfl, rfl, rfl⟩, hl.push _⟩ (fun b o e => Heap.get?_push_of_some _ (old b o e)) ⟨[], #[], 0, fresh0 w, sb_new (Heap.get?_push_of_some _ hS), Got.zero ks⟩ fun s' L es ep t mv hb g old' => ?_
  · rcases List.mem_cons.mp z with z | z
    · exact absurd (z.trans le) (Nat.ne_of_lt (Nat.lt_succ_self S))
    · exact absurd (List.mem_singleton.mp z) (Nat.ne_of_gt lS)
  · have : items.toList[i]? = some v := by rw [Array.getElem?_toList]; exact hv
    rw [its, List.getElem?_map] at this
    obtain ⟨p, hp, rfl⟩ := Option.map_eq_some_iff.mp this
    exact ⟨p, hp, rfl⟩
  · exact new b (by rw [List.mem_singleton.mp hb, le]; exact Nat.le_succ S)
  · obtain ⟨h', gs, dr, tk, os⟩ := s'
    obtain rfl : gs = s.gens := mv.gens
    obtain rfl : dr = s.drawn := mv.drawn
    obtain rfl : os = s.os := mv.os
    rw [size] at g
    exact show wpAny _ _ _ _ _ _ from wpAny_pure (show wpAny _ _ (ret Value.none) _ _ _ from wpAny_pure (fin h' tk L es ep t hb g old'))
theorem made {l : Addr} {items : Array Value} (ks : List (Addr × List Int)) {Q : Value → Shared → Prop} (calm : A.handled = none) (hl : s.heap.IsList l items) (its : items.toList = ks.map fun p => Value.ref p.1) (keys : ∀ p ∈ ks, IsT P w s.heap p.2 p.1) (few : ks.length < 4096) (hu : A.units + 8 < cLine)
    (fin : ∀ (h' : Heap) (tk : Nat) L es ep t, SB P w h' s.heap.objs.size L es ep t → Got ks ks.length L → (∀ b o, s.heap.get? b = some o → h'.get? b = some o) → Q (.ref s.heap.objs.size) { s with heap := h', toks := tk }) :
    wpAny (model P w) A (call (.type "set") [.ref l]) Q E s := by
  obtain ⟨c0, c1, mro⟩ := F.called_set.mro
  have by_ := F.called_set.made
  have sb := F.called_set.sub
  have t1 := F.called_set.notType
  have t2 := F.called_set.canCreate
  have t3 := F.typeCall_set_1 (.ref l)
  have lS : l < s.heap.objs.size := by
    obtain ⟨ol, hol, _⟩ := id hl
    exact Heap.lt_size hol
  refine wpAny_call (codeAny_of_tree (show wpAny _ _ (callAny (.type "set") _) _ _ _ from wpAny_pure ⟨Code.quiet_builtin _ (by decide +kernel), codeAny_builtin F.entry_type_call ?_⟩))
  rw [Around.under_plain (weight_type_call_type "set" [.ref l] []) rfl]
  repeat any_goals first | assumption | wp_step

  refine codeAny_mono (code_set_led1 (.ref l) (E := E) (Q₁ := fun u z => u = .ref s.heap.objs.size ∧ z = { s with heap := s.heap.push (set0 w) }) ⟨rfl, rfl⟩) fun r z hr => ?_
  match r, hr with
  | .ok (.ret u), ⟨hu1, hz⟩ =>
    subst hu1 hz
    have at_ : (s.heap.push (set0 w)).get? s.heap.objs.size = some (set0 w) := Heap.get?_push_size _ rfl
    have ty : Shared.TypeIs { s with heap := s.heap.push (set0 w) } (.ref s.heap.objs.size) "set" := ⟨_, at_, rfl⟩
    have i1 := F.called_set.init.lookup
    have i2 := F.called_set.init.bind (.ref s.heap.objs.size)
    have none_ : ∀ b, s.heap.objs.size ≤ b → s.heap.get? b = none := fun b hb => by
      cases e : s.heap.get? b with
      | none => rfl
      | some o => exact absurd (Heap.lt_size e) (Nat.not_lt_of_le hb)
    repeat any_goals first | assumption | wp_step

    refine codeAny_mono (codeAny_call_builtin (R := wants (fun r z => r = .none ∧ Q (.ref s.heap.objs.size) z) E) F.called_set.init.plain F.entry_set_init (check_set_init_1 ty ?_)) fun r z hr => ?_
    · exact init_fill (s := { s with heap := s.heap.push (set0 w) }) (h0 := s.heap) ks (by simp [calm]) at_ (none_ _ (Nat.le_refl _)) (Heap.size_push ..) (fun b o e => Heap.get?_push_of_some _ e) none_ (hl.push _) lS its keys few (by simp; omega) fun h' tk L es ep t S g k => ⟨rfl, fin h' tk L es ep t S g k⟩
    · match r, hr with
      | .ok (.ret u), ⟨e, q⟩ =>
        subst e
        repeat any_goals first | assumption | wp_step
      | .error e, h => exact h
  | .error e, h => exact h
end
end BS
set_option maxHeartbeats 1000000
namespace DL
open PySem PySem.Spec PyProof.Rows L2 BS
open PySem.W (Frag dataLe AllAlike Sortable EachIs alike alikeAll)
section
variable {P : Program} {w : World} {A : Around} {E : Value → Shared → Prop} {s : Shared}
theorem sorted_setB {a : Addr} {L : List (Addr × List Int)} {es : Array (Int × Value)} {ep : Nat} {t : SetTable} {Q : Value → Shared → Prop} (R : SB P w s.heap a L es ep t) (hh : A.handled = none) (hu : A.units + 64 < cLine) (hne : ∀ p ∈ L, p.2 ≠ [])
    (hQ : ∀ s' p (c : Nat) (L0 : List (Addr × List Int)), (∀ b o, s.heap.get? b = some o → s'.heap.get? b = some o) → s'.gens = s.gens → s'.os = s.os → s.heap.objs.size ≤ p → L0.Perm L →
      s'.heap.get? p = some (seqObj "list" ((L0.mergeSort leP).map fun q => Value.ref q.1).toArray c) → Q (.ref p) s') :
    wpAny (model P w) A (call (.builtin "sorted") [.ref a]) Q E s := by
  obtain ⟨o, ho, hex, hd⟩ := R.obj
  have hsz := ent_size R.ent
  have hfew := R.small
  refine Calls.call_function_entry kind_sorted plain_sorted entry_sorted (args_sorted1 _) ?_
  unfold Builtin.«sorted»
  refine wpAny_bind (m := checkCount "sorted" 1 1 _) (wpAny_pure ?_)
  refine wpAny_bind (collect_set (A := A.in1) hh ⟨o, ho, hex.1, hd⟩ R.fit (by unfold scanBound; omega) R.tbl.up R.ld fun s1 vs k1 hz g1 o1 pm => ?_)
  have rows : es.toList.map (·.2) = L.map fun q => Value.ref q.1 := by
    rw [R.ent]
    unfold rowsOf
    rw [List.map_map] <;> rfl
  rw [rows] at pm
  obtain ⟨L0, e0, p0⟩ : ∃ L0 : List (Addr × List Int), vs = L0.map (fun q => Value.ref q.1) ∧ L0.Perm L := by
    have ind : ∀ {us ws : List Value}, us.Perm ws → ∀ M : List (Addr × List Int), ws = M.map (fun q => Value.ref q.1) → ∃ N : List (Addr × List Int), us = N.map (fun q => Value.ref q.1) ∧ N.Perm M := by
      intro us ws h
      induction h with
      | nil => intro M e; exact ⟨M, e, .refl _⟩
      | cons x _ ih =>
        intro M e
        cases M with
        | nil => cases e
        | cons q M =>
          obtain ⟨N, e1, p1⟩ := ih M (List.cons.inj e).2
          exact ⟨q :: N, by rw [List.map_cons, ← e1, (List.cons.inj e).1], p1.cons q⟩
      | swap x y l =>
        intro M e
        match M, e with
        | q :: r :: M, e => 
          have h1 := List.cons.inj e
          have h2 := List.cons.inj h1.2
          exact ⟨r :: q :: M, by rw [List.map_cons, List.map_cons, ← h2.2, h1.1, h2.1], .swap q r M⟩
      | trans _ _ ih1 ih2 =>
        intro M e
        obtain ⟨N, e1, p1⟩ := ih2 M e
        obtain ⟨N', e2, p2⟩ := ih1 N e1
        exact ⟨N', e2, p2.trans p1⟩
    exact ind pm L rfl
  subst e0
  have hl0 : L0.length = L.length := p0.length_eq
  refine wpAny_bind (wpAny_newList ?_ (by rw [List.length_map, sizeLine_eq]; omega))
  have hoL : (s1.heap.push (seqObj "list" (L0.map fun q => Value.ref q.1).toArray 0)).get? s1.heap.objs.size = some (seqObj "list" (L0.map fun q => Value.ref q.1).toArray 0) := Heap.get?_push_size _ rfl
  have rd : EachIs (fun v (b : Addr × List Int) => ∃ as, Reads (s1.heap.push (seqObj "list" (L0.map fun q => Value.ref q.1).toArray 0)) v (pyI b.2) as ∧ s1.heap.objs.size ∉ as) (L0.map fun q => Value.ref q.1) L0 := by
    have go : ∀ M : List (Addr × List Int), (∀ q ∈ M, q ∈ L) → EachIs (fun v (b : Addr × List Int) => ∃ as, Reads (s1.heap.push (seqObj "list" (L0.map fun q => Value.ref q.1).toArray 0)) v (pyI b.2) as ∧ s1.heap.objs.size ∉ as) (M.map fun q => Value.ref q.1) M := by
      intro M
      induction M with
      | nil => intro _; exact .nil
      | cons q M ih => 
        intro hm
        refine .cons ⟨[], reads_isT (P := P) (w := w) (isT_keep (R.keys q (hm q List.mem_cons_self)) fun b u e => Heap.get?_push_of_some _ (k1 b u e)), by simp⟩ (ih fun r hr => hm r (List.mem_cons_of_mem _ hr))
    exact go L0 fun q hq => p0.mem_iff.mp hq
  refine wpAny_bind (wpAny_holding (PySem.W.list_sort_data (s := { s1 with heap := s1.heap.push (seqObj "list" (L0.map fun q => Value.ref q.1).toArray 0) }) (enc := fun q : Addr × List Int => pyI q.2) hoL (refs_each L0) rd (AllAlike.of fun b b' => alike_pyI b.2 b'.2) ?_ (by rw [sizeLine_eq]; omega) (fun b hb => ?_) fun out lo eo => ?_))
  · refine .inl fun d hd => ?_
    obtain ⟨q, hq, rfl⟩ := List.mem_map.mp hd
    have := hne q (p0.mem_iff.mp hq)
    cases e : q.2 with
    | nil => exact absurd e this
    | cons x r => exact ⟨.int x, r.map .int, rfl⟩
  · have : (pyI b.2).depth ≤ 1 := by
      show PyData.depthAll (b.2.map .int) + 1 ≤ 1
      rw [PySem.W.depth_ints]
      exact Nat.le_refl _
    show A.units + 1 + 1 + (pyI b.2).depth < cLine
    omega
  · have eo' := each_refs eo
    subst eo'
    obtain ⟨c, hc⟩ := sortedHeap_at (vs := L0.map fun q => Value.ref q.1) (out := ((L0.mergeSort leP).map fun q => Value.ref q.1).toArray) hoL
    refine wpAny_pure ⟨_, rfl, hQ _ s1.heap.objs.size c L0 (fun b u e => ?_) g1 o1 hz p0 hc⟩
    have q := k1 b u e
    have hlt := Heap.lt_size q
    show (sortedHeap (s1.heap.push (seqObj "list" (L0.map fun q => Value.ref q.1).toArray 0)) s1.heap.objs.size _ _).get? b = some u
    rw [sortedHeap_old (Nat.ne_of_lt hlt) (by rw [size_push']; exact Nat.lt_succ_of_lt hlt)]
    exact Heap.get?_push_of_some _ q
end
structure SB0 (P : Program) (w : World) (h : Heap) (a : Addr) (L : List (Addr × List Int)) : Prop where
  ex : ∃ (es : Array (Int × Value)) (ep : Nat) (t : SetTable), (∃ o, h.get? a = some o ∧ o.ExactSet ∧ o.data = .set es ep t) ∧ ∀ h', (∀ o, h.get? a = some o → h'.get? a = some o) → (∀ p ∈ L, IsT P w h' p.2 p.1) → SB P w h' a L es ep t
def SBO (P : Program) (w : World) (a : Addr) (L : List (Addr × List Int)) : HO := .ext fun h => SB0 P w h a L
theorem sb0_of {P : Program} {w : World} {h : Heap} {a : Addr} {L : List (Addr × List Int)} {es : Array (Int × Value)} {ep : Nat} {t : SetTable} (R : SB P w h a L es ep t) : SB0 P w h a L :=
  ⟨es, ep, t, R.obj, fun h' k1 k2 => R.still k1 k2⟩
theorem SB0.full {P : Program} {w : World} {h : Heap} {a : Addr} {L : List (Addr × List Int)} (R : SB0 P w h a L) (ht : ∀ p ∈ L, IsT P w h p.2 p.1) : ∃ es ep t, SB P w h a L es ep t := by
  obtain ⟨es, ep, t, _, q⟩ := R.ex
  exact ⟨es, ep, t, q h (fun o e => e) ht⟩
theorem sbo_new {P : Program} {w : World} {H : Hp} {h : Heap} {a : Addr} {L : List (Addr × List Int)} (R : SB0 P w h a L) : ObjOk P w H h a (SBO P w a L) := by
  obtain ⟨es, ep, t, ⟨o, ho, r⟩, q⟩ := id R.ex
  refine ⟨R, ⟨o, ho⟩, fun h1 h2 p k => ?_⟩
  obtain ⟨es', ep', t', ⟨o', ho', r'⟩, q'⟩ := SB0.ex p
  exact ⟨es', ep', t', ⟨o', k o' ho', r'⟩, fun h3 k3 => q' h3 fun o e => k3 o (k o e)⟩
section
variable {X : Cx}
theorem cr_setB (hc : X.calm = true) (hu : X.A.units + 64 < cLine) : CallR X (.type "set") (fun xs H Q => ∃ (l : Addr) (ks : List (Addr × List Int)), xs = [V.ref l] ∧ SqL X.K H l (ks.map fun p => V.ref p.1) ∧ (∀ p ∈ ks, SqT X.K H p.1 (p.2.map V.int)) ∧ ks.length < 4096 ∧
  ∀ a L, H a = none → (∀ p ∈ L, p ∈ ks) → (∀ p ∈ ks, p.2 ∈ L.map (·.2)) → Q (.ref a) (upd H a (SBO X.prog X.w a L))) := by
  intro pins s σ H xs us Q I r h
  obtain ⟨l, ks, rfl, hl, hk, hf, q⟩ := h
  rw [Vals.ref1 r]
  obtain ⟨its, rv, pl, hz⟩ := I.list hl
  have free := I.hok.fresh (Nat.le_refl s.heap.objs.size)
  refine made (P := X.prog) (w := X.w) ks (I.ok.hd hc) pl.isList (by simpa using refs_of_vals rv) (fun p hp => I.isT (hk p hp)) hf (by omega) fun h' tk L es ep t R g k => ?_
  exact ⟨.ref s.heap.objs.size, upd H s.heap.objs.size (SBO X.prog X.w s.heap.objs.size L), I.laid (t' := tk) k (Nat.le_refl _) (sbo_new (sb0_of R)), rfl, q _ L free (fun p hp => List.mem_of_mem_take (g.sub p hp)) fun p hp => g.all p (by rw [List.take_length]; exact hp)⟩
end
section
variable {X : Cx}
theorem cr_sortedB (hc : X.calm = true) (hu : X.A.units + 64 < cLine) : CallR X (.builtin "sorted") (fun vs H Q => ∃ (a : Addr) (L : List (Addr × List Int)), vs = [V.ref a] ∧ H a = some (SBO X.prog X.w a L) ∧ (∀ p ∈ L, SqT X.K H p.1 (p.2.map V.int)) ∧ (∀ p ∈ L, p.2 ≠ []) ∧
    ∀ (L0 : List (Addr × List Int)) (p : Addr), L0.Perm L → (L.map (·.2)).Nodup → L.length < 4096 → H p = none → Q (.ref p) (upd H p (.lst ((L0.mergeSort leP).map fun q => V.ref q.1)))) := by
  intro pins s σ H vs us Q I r h
  obtain ⟨a, L, rfl, ha, hk, hne, q⟩ := h
  have R0 : SB0 X.prog X.w s.heap a L := (I.hok a _ ha).1
  obtain ⟨es, ep, t, R⟩ := R0.full fun p hp => I.isT (hk p hp)
  rw [Vals.ref1 r]
  refine sorted_setB R (I.ok.hd hc) hu hne fun s' p c L0 k g o hp pm hg => ?_
  have hl : (L0.mergeSort leP).length = L.length := by rw [List.length_mergeSort, pm.length_eq]
  have hfew := R.small
  have hn : H p = none := I.hok.fresh hp
  have hob : ObjOk X.prog X.w (upd H p (.lst ((L0.mergeSort leP).map fun q => V.ref q.1))) s'.heap p (.lst ((L0.mergeSort leP).map fun q => V.ref q.1)) :=
    ⟨by rw [List.length_map, sizeLine_eq]; omega, _, c, vals_of_refs _, hg⟩
  have J : Inv X pins σ (upd H p (.lst ((L0.mergeSort leP).map fun q => V.ref q.1))) { s with heap := s'.heap, gens := s'.gens, drawn := s'.drawn, toks := s'.toks } :=
    I.call (ch := []) (Un.laid k hp hn) (I.hok.laid k hp hob) (by rw [g]; exact I.bare) (fun _ z => nomatch z)
  have e : s' = { s with heap := s'.heap, gens := s'.gens, drawn := s'.drawn, toks := s'.toks } := by
    cases s'
    cases s
    cases o
    rfl
  rw [e]
  exact ⟨.ref p, _, J, rfl, q L0 p pm R.once hfew hn⟩
end
abbrev dSortSetB (t : DE) : DA := fun s Q => t s fun d k => ∃ ws : List (List Int), d = .lst (ws.map fun w => .tup (w.map .int)) ∧ ws.length < 4096 ∧ (∀ w ∈ ws, w ≠ []) ∧ ∀ L : List (List Int), L.Nodup → (∀ w, w ∈ L ↔ w ∈ ws) → Q ((L.mergeSort leI).map fun w => .tup (w.map .int)) k
section
variable {X : Cx} {c : C} {p p2 pos pos2 : Pos}
theorem pdf_sortSetB (hK : c.K = X.K) {j : Nat} (hr : Room j X.A) (hc : X.calm = true) (hm : X.mg "sorted" = none) (hm2 : X.mg "set" = none) {e : Expr} {t : DE} (h : PE X e (LE c t)) (hg : Gl X "sorted" := by rfl) (hg2 : Gl X "set" := by rfl)
    (hs : starEach [e] X.env = (false, eval e X.env) :: starEach [] X.env := by rfl) (hp : (backTo pos2 (starEach [] X.env)).any (·.1) = false := by rfl)
    (hs2 : starEach [.Call (.Name "set" p2) [e] [] pos2] X.env = (false, eval (.Call (.Name "set" p2) [e] [] pos2) X.env) :: starEach [] X.env := by rfl) (hp2 : (backTo pos (starEach [] X.env)).any (·.1) = false := by rfl) :
    PE X (.Call (.Name "sorted" p) [.Call (.Name "set" p2) [e] [] pos2] [] pos) (LF c (dSortSetB t)) := by
  refine (pe_callB (cr_sortedB hc hr.units) hg hm (by first | exact PySem.boot_sorted | exact PyProof.Rows.boot_sorted | rfl) (pa_cons (pe_callTy (cr_setB hc hr.units) hg2 hm2 PyProof.Rows.boot_set (pa_cons h pa_nil hs) (he := hs) (hpl := hp)) pa_nil hs2) (he := hs2) (hpl := hp2)).weak fun σ H Q ⟨s, R, rp, q, f⟩ => ⟨s, _, rp, q, fun d k ⟨ws, hd, hl, hne, h2⟩ v H1 r1 a1 e1 => ?_⟩
  subst hd
  obtain ⟨l, vs, rfl, h, r⟩ := e1.lstE
  obtain ⟨ks, rfl, rfl, hks⟩ := r.tups
  rw [List.length_map] at hl
  refine ⟨l, ks, rfl, hK ▸ SqL.of (wo_sub _ _ _ _ h), fun p hp => hK ▸ (wo_sub _ _ : Sub _ _).st (hks p hp), hl, fun a L ha hsub hall => ?_⟩
  have r2 := r1.new (o := SBO X.prog X.w a L) ha
  have tup2 : ∀ p ∈ L, SqT c.K (c.hid s.X (upd H1 a (SBO X.prog X.w a L))) p.1 (p.2.map V.int) := fun p hp => r2.2.sub.st (hks p (hsub p hp))
  refine ⟨a, L, rfl, upd_same, fun p hp => hK ▸ (wo_sub _ _ : Sub _ _).st (tup2 p hp), fun p hp => hne _ (List.mem_map.mpr ⟨p, hsub p hp, rfl⟩), fun L0 p pm nd few hn => ?_⟩
  have nd0 : (L0.map (·.2)).Nodup := (pm.map (·.2)).nodup_iff.mpr nd
  have hq := h2 (L0.map (·.2)) nd0 fun w => by
    constructor
    · intro hw
      obtain ⟨z, hz, rfl⟩ := List.mem_map.mp hw
      exact List.mem_map.mpr ⟨z, hsub z (pm.mem_iff.mp hz), rfl⟩
    · intro hw
      obtain ⟨z, hz, rfl⟩ := List.mem_map.mp hw
      obtain ⟨y, hy, e⟩ := List.mem_map.mp (hall z hz)
      exact List.mem_map.mpr ⟨y, pm.mem_iff.mpr hy, e⟩
  have es : (L0.map (·.2)).mergeSort leI = (L0.mergeSort leP).map (·.2) := (PySem.W.sort_maps (r := leP) (s := leI) (l := L0) (fun z : Addr × List Int => z.2) (fun a _ b _ => rfl)).symm
  rw [es, List.map_map] at hq
  exact f _ k hq p _ (NewL.mk' (r2.1) (a1.trans r2.2) (RlA.ofTups fun z hz => tup2 z (pm.mem_iff.mp (List.mem_mergeSort.mp hz))) hn)
end
end DL
set_option maxHeartbeats 1000000
namespace BW
open PySem L2 DL
open PySem.W (dataLe)
def sbs : List Int → List (List Int)
  | [] => [[]]
  | a :: l => sbs l ++ (sbs l).map (a :: ·)
theorem sbs_len : ∀ l : List Int, (sbs l).length = 2 ^ l.length
  | [] => rfl
  | a :: l => by
    show (sbs l ++ (sbs l).map (a :: ·)).length = 2 ^ (l.length + 1)
    rw [List.length_append, List.length_map, sbs_len l, Nat.pow_succ]; omega
theorem mem_sbs : ∀ {l u : List Int}, u ∈ sbs l ↔ u.Sublist l
  | [], u => by
    rw [show sbs [] = [[]] from rfl, List.mem_singleton, List.sublist_nil]
  | a :: l, u => by
    show u ∈ sbs l ++ (sbs l).map (a :: ·) ↔ _
    rw [List.mem_append, List.mem_map, mem_sbs]
    constructor
    · rintro (h | ⟨x, hx, rfl⟩)
      · exact h.cons a
      · exact (mem_sbs.mp hx).cons_cons a
    · intro h
      cases h with
      | cons _ h => exact .inl h
      | cons_cons _ h => exact .inr ⟨_, mem_sbs.mpr h, rfl⟩
def unL (T : Mat) (y : List Int) : List (List Int) := (onceL ((sbs y).map (row T))).mergeSort leI
theorem mem_unL {T : Mat} {y r : List Int} : r ∈ unL T y ↔ ∃ x : List Int, x.Sublist y ∧ row T x = r := by
  unfold unL
  rw [List.mem_mergeSort, mem_once, List.mem_map]
  exact ⟨fun ⟨x, h, e⟩ => ⟨x, mem_sbs.mp h, e⟩, fun ⟨x, h, e⟩ => ⟨x, mem_sbs.mpr h, e⟩⟩
theorem unL_nodup (T : Mat) (y : List Int) : (unL T y).Nodup := (List.mergeSort_perm _ leI).nodup_iff.mpr nodup_once
theorem once_len : ∀ l : List (List Int), (onceL l).length ≤ l.length
  | [] => Nat.le_refl _
  | a :: l => by
    have := once_len l
    unfold onceL
    by_cases h : a ∈ l
    · rw [if_pos h, List.length_cons]; omega
    · rw [if_neg h, List.length_cons, List.length_cons]; omega
theorem unL_len (T : Mat) (y : List Int) : (unL T y).length ≤ 2 ^ y.length := by
  unfold unL
  rw [List.length_mergeSort]
  refine Nat.le_trans (once_len _) ?_
  rw [List.length_map, sbs_len]
  exact Nat.le_refl _
theorem unL_is {T : Mat} {y : List Int} {L : List (List Int)} (nd : L.Nodup) (h : ∀ r, r ∈ L ↔ ∃ x : List Int, x.Sublist y ∧ row T x = r) : L.mergeSort leI = unL T y := by
  have := sort_same nd (nodup_once (l := (sbs y).map (row T))) fun r => (h r).trans (by
    rw [mem_once, List.mem_map]
    exact ⟨fun ⟨x, h, e⟩ => ⟨x, mem_sbs.mpr h, e⟩, fun ⟨x, h, e⟩ => ⟨x, mem_sbs.mp h, e⟩⟩)
  exact this
theorem unL_nil (T : Mat) : unL T [] = [one T] := by
  show (onceL [row T []]).mergeSort leI = [one T]
  show ([one T] : List (List Int)).mergeSort leI = [one T]
  simp
theorem unL_snoc {T : Mat} {y : List Int} {a : Int} {L : List (List Int)} (nd : L.Nodup) (h : ∀ r, r ∈ L ↔ r ∈ unL T y ++ (unL T y).map fun r => press T r (ix a)) : L.mergeSort leI = unL T (y ++ [a]) := unL_is nd fun r => by
  rw [h r, List.mem_append, List.mem_map, mem_unL]
  constructor
  · rintro (⟨x, h1, h2⟩ | ⟨q, hq, rfl⟩)
    · exact ⟨x, h1.trans (List.sublist_append_left _ _), h2⟩
    · obtain ⟨x, h1, rfl⟩ := mem_unL.mp hq
      exact ⟨x ++ [a], h1.append (List.Sublist.refl _), row_snoc⟩
  · rintro ⟨x, h1, rfl⟩
    rcases sub_snoc h1 with h | ⟨z, hz, rfl⟩
    · exact .inl ⟨x, h, rfl⟩
    · exact .inr ⟨row T z, mem_unL.mpr ⟨z, hz, rfl⟩, row_snoc.symm⟩
theorem unL_row {T : Mat} {y r : List Int} (h : r ∈ unL T y) : r.length = T.length := by
  obtain ⟨x, _, rfl⟩ := mem_unL.mp h
  exact row_length T x
end BW
set_option maxHeartbeats 1000000
namespace BW
open PySem L2 DL
def kp (T : Mat) (y : List Int) : Nat → List Int → List Int → List Int × List Int
  | 0, r, q => (r, q)
  | n + 1, r, q => if r.getD (ix (y.getD n 0)) 0 < 0 then kp T y n (press T r (ix (y.getD n 0))) ((n : Int) :: q) else kp T y n r q
theorem kp_gr (T : Mat) (y : List Int) : ∀ {n : Nat} {r q : List Int}, n ≤ y.length → (kp T y n r q).1 = gr T (y.take n).reverse r
  | 0, r, q, _ => rfl
  | n + 1, r, q, h => by
    have e : (y.take (n + 1)).reverse = y.getD n 0 :: (y.take n).reverse := by
      rw [List.take_succ, getD_get (d := 0) (by omega : n < y.length), List.reverse_append]; rfl
    rw [e]
    show (if r.getD (ix (y.getD n 0)) 0 < 0 then kp T y n (press T r (ix (y.getD n 0))) ((n : Int) :: q) else kp T y n r q).1 = if r.getD (ix (y.getD n 0)) 0 < 0 then gr T (y.take n).reverse (press T r (ix (y.getD n 0))) else gr T (y.take n).reverse r
    by_cases c : r.getD (ix (y.getD n 0)) 0 < 0
    · rw [if_pos c, if_pos c]; exact kp_gr T y (by omega)
    · rw [if_neg c, if_neg c]; exact kp_gr T y (by omega)
abbrev kpt (T : Mat) (w v : List Int) : List Int × List Int := kp T (lw T v) (lw T v).length (row T w) []
theorem kpt_und {T : Mat} (ht : Tab T) {w v : List Int} (hw : Wd T.length w) (hv : Wd T.length v) (lv : v.length ≤ 60) : (kpt T w v).1 = one T ↔ Und T (lw T v) w := by
  obtain ⟨_, b, _, _⟩ := lw_row2 ht hv lv
  rw [kp_gr T (lw T v) (Nat.le_refl _), List.take_length, gr_und ht (wd_rev b) hw, List.reverse_reverse]
def sp_kept (BC : Addr) : DSp := fun ds k R => ∃ T d e w v, ds = [bnd BC T, d, e] ∧ Tab T ∧ isW d w ∧ isW e v ∧ w.length ≤ 60 ∧ v.length ≤ 60 ∧ Wd T.length w ∧ Wd T.length v ∧ R (if (kpt T w v).1 = one T then tI (kpt T w v).2 else .non) k
def sp_is_below (BC : Addr) : DSp := fun ds k R => ∃ T d e w v, ds = [bnd BC T, d, e] ∧ Tab T ∧ isW d w ∧ isW e v ∧ w.length ≤ 60 ∧ v.length ≤ 60 ∧ Wd T.length w ∧ Wd T.length v ∧ R (.bl (decide ((kpt T w v).1 = one T))) k
abbrev t_kept (BC : Addr) : DS := (dSeq (dSet 3 (dCall (sp_row_of BC) (dCons (dVar 0) (dCons (dVar 1) dNil))))
  (dSeq (dSet 4 (dCall (sp_least_word BC) (dCons (dVar 0) (dCons (dVar 2) dNil))))
  (dSeq (dSet 5 (dTup dNil))
  (dSeq (dFor (iRv (dLenN 4)) (dgN 6) (dIfS (dTB (dOp oLt (dIxN 3 (dOp oSub (dIxN 4 (dVar 6)) (dC (.int 1)))) (dC (.int 0)))) (dSeq (dSet 3 (dCall (sp_pressed BC) (dCons (dVar 0) (dCons (dVar 3) (dCons (dIxN 4 (dVar 6)) dNil)))))
  (dSet 5 (dTup (dCons (dVar 6) (dStar (dVar 5) dNil))))) dNext))
  (dRet (dIf (dTB (dOp oEq (dVar 3) (dCall (sp_first_row BC) (dCons (dVar 0) dNil)))) (dVar 5) (dC .non)))))))
abbrev t_is_below (BC : Addr) : DS := (dRet (dOp (oNot oIs) (dCall (sp_kept BC) (dCons (dVar 0) (dCons (dVar 1) (dCons (dVar 2) dNil)))) (dC .non)))
theorem r_kept (BC : Addr) (X : List Addr) (ds : List D) (k : Nat) (R : D → Nat → Prop) (h : sp_kept BC ds k R) : t_kept BC (En R) (St0 false 7 ds X k) := by
  obtain ⟨T, d, e, w, v, rfl, ht, hd, he, lw_, lv, hw, hv, h⟩ := h
  obtain ⟨_, yb, yl, _⟩ := lw_row2 ht hv lv
  have h : R (if (kp T (lw T v) (lw T v).length (row T w) []).1 = one T then tI (kp T (lw T v) (lw T v).length (row T w) []).2 else .non) k := h
  generalize hy : lw T v = y at h yb yl
  have ly : (y.map D.int).length = y.length := List.length_map ..
  refine ⟨_, rfl, _, rfl, T, d, w, rfl, ht, hd, lw_, hw, ?_⟩
  refine ⟨_, rfl, _, rfl, T, e, v, rfl, ht, he, lv, hv, ?_⟩
  rw [hy]
  refine ⟨by show 0 ≤ lim; decide, ?_⟩
  refine ⟨_, rfl, y.length, by rw [ly], l10k (by omega), fun i s' => ∃ (r q : List Int) (x6 : Sl), s' = ⟨X, [.dat (bnd BC T), .dat d, .dat e, .dat (tI r), .dat (tI y), .dat (tI q), x6], k⟩ ∧ r.length = T.length ∧ q.length ≤ i ∧ i ≤ y.length ∧ kp T y (y.length - i) r q = kp T y y.length (row T w) [], ⟨row T w, [], _, rfl, row_length _ _, Nat.le_refl _, Nat.zero_le _, rfl⟩, ?_, ?_⟩
  · rintro i z s' hz ⟨r, q, x6, rfl, hr, hq, hi, ek⟩
    obtain ⟨hi2, rfl⟩ := rev_at hz
    obtain ⟨n, en⟩ : ∃ n, y.length - i = n + 1 := ⟨y.length - i - 1, by omega⟩
    have ez : (y.length : Int) - 1 - i = (n : Int) := by omega
    rw [ez]
    have hn : n < y.length := by omega
    have en2 : y.length - (i + 1) = n := by omega
    have ab := yb (y.getD n 0) (List.mem_of_getElem? (getD_get (d := 0) hn))
    have a1 : atI (y.map D.int) (n : Int) = some (.int (y.getD n 0)) := atM 0 hn
    have a2 : atI (r.map D.int) (y.getD n 0 - 1) = some (.int (r.getD (ix (y.getD n 0)) 0)) := by
      have e : y.getD n 0 - 1 = ((ix (y.getD n 0) : Nat) : Int) := by unfold ix; omega
      rw [e]
      exact atM 0 (by rw [hr]; unfold ix; omega)
    have st : kp T y (n + 1) r q = if r.getD (ix (y.getD n 0)) 0 < 0 then kp T y n (press T r (ix (y.getD n 0))) ((n : Int) :: q) else kp T y n r q := rfl
    rw [en, st] at ek
    refine ⟨_, rfl, _, rfl, _, rfl, _, _, rfl, a1, _, _, rfl, a2, _, rfl, iteD (fun lt => ?_) fun ge => ?_⟩
    · rw [if_pos lt] at ek
      refine ⟨_, rfl, _, rfl, _, rfl, _, rfl, _, _, rfl, a1, T, r, y.getD n 0, rfl, ht, hr, ab.1, ab.2, ?_⟩
      refine ⟨_, rfl, _, rfl, _, rfl, ?_, ?_⟩
      · show (D.int n :: (q.map D.int ++ [])).length ≤ lim
        rw [List.append_nil, List.length_cons, List.length_map]
        exact l10k (by omega)
      · refine ⟨press T r (ix (y.getD n 0)), (n : Int) :: q, .dat (.int n), ?_, press_length _ _ _, by show q.length + 1 ≤ _; omega, by omega, by rw [en2]; exact ek⟩
        show (⟨X, [.dat (bnd BC T), .dat d, .dat e, .dat (tI (press T r (ix (y.getD n 0)))), .dat (tI y), .dat (.tup (D.int n :: (q.map D.int ++ []))), .dat (.int n)], k⟩ : S) = _
        rw [List.append_nil]; rfl
    · rw [if_neg ge] at ek
      exact ⟨r, q, .dat (.int n), rfl, hr, by omega, by omega, by rw [en2]; exact ek⟩
  · rintro s' ⟨r, q, x6, rfl, hr, hq, hi, ek⟩ X'
    rw [List.length_reverse, rngD_len, Nat.sub_self] at ek
    have e1 : (kp T y y.length (row T w) []).1 = r := by rw [← ek]; rfl
    have e2 : (kp T y y.length (row T w) []).2 = q := by rw [← ek]; rfl
    have h : R (if (kp T y y.length (row T w) []).1 = one T then tI (kp T y y.length (row T w) []).2 else .non) k := h
    rw [e1, e2] at h
    refine ⟨_, rfl, _, rfl, T, rfl, ht, okE_tupI _, okE_tupI _, _, rfl, ?_⟩
    rw [show PyData.eqv (tI r).py (tI (one T)).py = decide (r = one T) from eqv_tupI _ _]
    refine iteD (fun c => ?_) fun c => ?_
    · rw [if_pos c] at h; exact ⟨_, rfl, h⟩
    · rw [if_neg c] at h; exact h
theorem r_is_below (BC : Addr) (X : List Addr) (ds : List D) (k : Nat) (R : D → Nat → Prop) (h : sp_is_below BC ds k R) : t_is_below BC (En R) (St0 false 3 ds X k) := by
  obtain ⟨T, d, e, w, v, rfl, ht, hd, he, lw_, lv, hw, hv, h⟩ := h
  intro X'
  refine ⟨_, rfl, _, rfl, _, rfl, T, d, e, w, v, rfl, ht, hd, he, lw_, lv, hw, hv, ?_⟩
  by_cases c : (kpt T w v).1 = one T
  · rw [if_pos c]
    rw [decide_eq_true c] at h
    exact h
  · rw [if_neg c]
    rw [decide_eq_false c] at h
    exact h
end BW
namespace DL
open PySem L2
end DL
set_option maxHeartbeats 1000000
namespace BW
open PySem L2 DL
open PySem.W (dataLe)
abbrev tIs (L : List (List Int)) : D := .lst (L.map tI)
def sp__law_under : DSp := fun ds k R => ∃ T d w, ds = [lM T, d] ∧ Tab T ∧ isW d w ∧ w.length ≤ 60 ∧ Wd T.length w ∧ (lw T w).length ≤ 11 ∧ R (tIs (unL T (lw T w))) k
abbrev t_un1 : DS := (dSet 2 (dOp oAdd (dVar 2) (dFr (dLc (iLst (dVar 2)) (dgN 4) dY (dCall sp__law_pressedL (dCons (dVar 0) (dCons (dVar 4) (dCons (dVar 3) dNil)))) [4]))))
abbrev t_un2 : DS := (dSet 2 (dFr (dSortSetB (dVar 2))))
abbrev t__law_under : DS := (dSeq (dSet 2 (dFr (dLs (dCons (dOp oMul (dTup (dCons (dC (.int 1)) dNil)) (dLenN 0)) dNil))))
  (dSeq (dFor (iTp (dCall sp__law_leastL (dCons (dVar 0) (dCons (dVar 1) dNil)))) (dgN 3) (dSeq t_un1
  t_un2))
  (dRet (dVar 2))))
section
variable {T : Mat} {d : D} {L : List (List Int)} {y : List Int} {a : Int} {X : List Addr} {k : Nat} {x2 x3 x4 : Sl} {DD : DEnds}
abbrev slUn (T : Mat) (d : D) (x2 x3 x4 : Sl) : List Sl := [.dat (lM T), .dat d, x2, x3, x4]
theorem r_un1 (ht : Tab T) (h : ∀ r ∈ L, r.length = T.length) (ll : L.length ≤ 2048) (a0 : 1 ≤ a) (a1 : a ≤ T.length) (fin : ∀ x4, DD.nx ⟨X, slUn T d (.dat (tIs (L ++ L.map fun r => press T r (ix a)))) (.dat (.int a)) x4, k⟩) : t_un1 DD ⟨X, slUn T d (.dat (tIs L)) (.dat (.int a)) x4, k⟩ := by
  have lm : (L.map tI).length = L.length := List.length_map ..
  have l5 : ∀ {n : Nat}, n ≤ 10000 → n ≤ lim := fun h => l10k h
  refine ⟨_, rfl, _, rfl, _, rfl, by rw [lm]; exact l5 (by omega), fun p hp => ⟨fun j acc k' => k' = k ∧ acc = ((L.take j).map fun r => press T r (ix a)).map tI, ⟨rfl, rfl⟩, ?_, ?_⟩⟩
  · rintro j e acc k' he ⟨rfl, rfl⟩ _
    rw [List.getElem?_map] at he
    obtain ⟨r, hr, rfl⟩ := Option.map_eq_some_iff.mp he
    refine iteT ⟨_, rfl, _, rfl, _, rfl, T, r, a, rfl, ht, h r (List.mem_of_getElem? hr), a0, a1, rfl, ?_⟩
    rw [List.take_succ, hr, List.map_append, List.map_append]; rfl
  · rintro acc k' ⟨rfl, rfl⟩ _
    rw [lm, List.take_length]
    refine ⟨by rw [lm, List.length_map, List.length_map]; exact l5 (by omega), ?_⟩
    have := fin x4
    unfold tIs at this
    rw [List.map_append] at this
    exact this
theorem r_un2 (ht : Tab T) (h : ∀ r ∈ L, r.length = T.length) (ll : L.length < 4096) (fin : ∀ M : List (List Int), M.Nodup → (∀ r, r ∈ M ↔ r ∈ L) → DD.nx ⟨X, slUn T d (.dat (tIs (M.mergeSort leI))) x3 x4, k⟩) : t_un2 DD ⟨X, slUn T d (.dat (tIs L)) x3 x4, k⟩ :=
  ⟨_, rfl, L, rfl, ll, fun w hw z => by
    have := h w hw
    have lo := ht.lo
    rw [z] at this
    have : 0 = T.length := this
    omega, fun M nd hM => fin M nd hM⟩
end
theorem r__law_under (X : List Addr) (ds : List D) (k : Nat) (R : D → Nat → Prop) (h : sp__law_under ds k R) : t__law_under (En R) (St0 false 5 ds X k) := by
  obtain ⟨T, d, w, rfl, ht, hd, hl, hw, ly, h⟩ := h
  have lt : (T.map lI).length = T.length := List.length_map ..
  have hT := ht.hi
  have lo := ht.lo
  obtain ⟨_, yw, _, _⟩ := lw_row2 ht hw hl
  have eo : (List.replicate (((T.map lI).length : Nat) : Int).toNat [D.int 1]).flatten = (one T).map .int := by rw [Int.toNat_natCast, lt]; exact rep_one _
  refine ⟨by decide, _, rfl, by simp, by rw [lt]; omega, by rw [lt]; omega, by decide, by show 1 ≤ lim; decide, ?_⟩
  rw [eo]
  refine ⟨_, rfl, _, rfl, T, d, w, rfl, ht, hd, hw, hl, _, rfl, fun i s' => i ≤ (lw T w).length ∧ ∃ x3 x4, s' = ⟨X, slUn T d (.dat (tIs (unL T ((lw T w).take i)))) x3 x4, k⟩, ⟨Nat.zero_le _, .no, .no, ?_⟩, ?_, ?_⟩
  · show (⟨X, [.dat (lM T), .dat d, .dat (.lst [tI (one T)]), .no, .no], k⟩ : S) = _
    rw [List.take_zero, unL_nil]; rfl
  · rintro i e s' he ⟨hi, x3, x4, rfl⟩
    rw [List.getElem?_map] at he
    obtain ⟨a, ha, rfl⟩ := Option.map_eq_some_iff.mp he
    have il := (List.getElem?_eq_some_iff.mp ha).1
    have ab := yw a (List.mem_of_getElem? ha)
    have few := unL_len T ((lw T w).take i)
    have : 2 ^ ((lw T w).take i).length ≤ 2 ^ 10 := Nat.pow_le_pow_right (by decide) (by rw [List.length_take]; omega)
    have e10 : (2 : Nat) ^ 10 = 1024 := by decide
    have rl : ∀ r ∈ unL T ((lw T w).take i), r.length = T.length := fun r hr => unL_row hr
    refine r_un1 ht rl (by omega) ab.1 ab.2 fun x4 => r_un2 ht (fun r hr => ?_) (by rw [List.length_append, List.length_map]; omega) fun M nd hM => ?_
    · rcases List.mem_append.mp hr with h | h
      · exact rl r h
      · obtain ⟨q, _, rfl⟩ := List.mem_map.mp h
        exact press_length T q _
    · refine ⟨by omega, .dat (.int a), x4, ?_⟩
      rw [unL_snoc nd hM, List.take_succ, ha]
      rfl
  · rintro s' ⟨hi, x3, x4, rfl⟩
    rw [List.length_map, List.take_length]
    exact fun X' => ⟨_, rfl, h⟩
theorem unL_okE (L : List (List Int)) : (tIs L).okE = true := (okE_mat (f := tI) (fun r => plain_ints r) (fun r => by show PyData.canLayAll0 (pyA (r.map D.int)) = true; rw [py_ints, lay_ints]) (fun r => by show PyData.depthAll (pyA (r.map D.int)) + 1 = 1; rw [py_ints, depth_ints]) L).1
end BW
set_option maxHeartbeats 1000000
namespace BW
open PySem L2 DL
abbrev ub (T : Mat) (w v : List Int) : Bool := decide ((kpt T w v).1 = one T)
theorem ub_iff {T : Mat} (ht : Tab T) {w v : List Int} (hw : Wd T.length w) (hv : Wd T.length v) (lv : v.length ≤ 60) : ub T w v = true ↔ Und T (lw T v) w := by
  rw [← kpt_und ht hw hv lv]
  exact decide_eq_true_iff
abbrev ll (T : Mat) (w : List Int) : Nat := (wd T 60 (row T w)).1.length
abbrev T3x : Mat := [[1, 3], [3, 1]]
theorem kp2 : decide ((kpt T3x [1, 2] [2, 1]).1 = one T3x) = false := by decide +kernel
end BW
set_option maxHeartbeats 1000000
namespace DL
open PySem L2
open PySem.W (Frag)
abbrev ksL (L : List (Addr × List Int × Int)) : List (List Int) := L.map (·.2.1)
end DL
set_option maxHeartbeats 1000000
namespace DL
open PySem L2
open PySem.W (Frag)
end DL
set_option maxHeartbeats 1000000
namespace DL
open PySem L2
open PySem.W (Frag)
def hpN : Nat → Heap
  | 0 => {}
  | n + 1 => (hpN n).push default
theorem hpN_size : ∀ n, (hpN n).objs.size = n
  | 0 => rfl
  | n + 1 => by
    show ((hpN n).push default).objs.size = n + 1
    rw [Heap.size_push, hpN_size n]
theorem heap_at (p : Addr) (o : Obj) (ho : o.isFreed = false) : ∃ h : Heap, h.get? p = some o := by
  refine ⟨(hpN p).push o, ?_⟩
  have := Heap.get?_push_size (hpN p) (o := o) ho
  rw [hpN_size] at this
  exact this
theorem nd_sub_len : ∀ {l z : List (List Int)}, l.Nodup → (∀ x ∈ l, x ∈ z) → l.length ≤ z.length
  | [], z, _, _ => Nat.zero_le _
  | a :: l, z, nd, h => by
    have ha := h a List.mem_cons_self
    obtain ⟨n1, n2⟩ := List.nodup_cons.mp nd
    have ih := nd_sub_len (z := z.erase a) n2 fun x hx => (List.mem_erase_of_ne fun e => n1 (by rw [← e]; exact hx)).mpr (h x (List.mem_cons_of_mem _ hx))
    rw [List.length_erase_of_mem ha] at ih
    have := List.length_pos_of_mem ha
    show l.length + 1 ≤ _
    omega
theorem KOk.few {m : Mc} {kn : Kn} {H : Hp} {L : List (Addr × List Int × Int)} (o : KOk m kn H L) : L.length ≤ 1000000 := by
  have : (ksL L).length ≤ kn.Z.length := nd_sub_len o.nd fun x hx => by
    obtain ⟨y, hy, rfl⟩ := List.mem_map.mp hx
    exact o.z y hy
  rw [List.length_map] at this
  have := o.lz
  omega
abbrev tuI (r : List Int) : D := .tup (r.map D.int)
theorem Rep.row {c : C} {s : S} {σ : L2.St} {H : Hp} {j : Nat} {r : List Int} (rp : Rep c s σ H) (h : s.sl[j]? = some (.dat (tuI r))) : ∃ q, σ[j]? = some (some (.ref q)) ∧ SqT c.K H q (r.map V.int) := by
  obtain ⟨v, e, hv⟩ := rp.slot j _ h
  obtain ⟨q, vs, rfl, h1, h2⟩ := hv.tupE
  rw [RlA.ints_v h2] at h1
  exact ⟨q, e, (wo_sub _ _).st h1⟩
end DL
set_option maxHeartbeats 1000000
namespace DL
open PySem L2
open PySem.W (Frag)
abbrev mcK (K : Frag) (N : List Int → Int) (Z : List (List Int)) (p : Addr) : Mc := ⟨p, p, p, [], some ⟨K, N, Z⟩⟩
abbrev C.kn (c : C) (N : List Int → Int) (Z : List (List Int)) (p : Addr) (X : List Addr) (H : Hp) : C := ⟨c.K, some (mcK c.K N Z p), X, H, c.ow⟩
@[reducible] def Sl.nO : Sl → Sl
  | .own _ _ => .no
  | .kds _ _ => .no
  | .mst => .no
  | x => x
theorem Rep.sw {c : C} {s : S} {σ : L2.St} {H : Hp} {p : Addr} {i : Nat} {N : List Int → Int} {Z : List (List Int)} (rp : Rep c s σ H) (hM : c.M = none) (hp : H p = none) (hz : Z.length ≤ 100000) (hi : i < s.sl.length) :
    Rep (c.kn N Z p s.X (upd H p (.ext (DiE p [])))) ⟨s.X, (s.sl.map Sl.nO).set i (.kds N Z), s.k⟩ (σ.set i (some (.ref p))) (upd H p (.ext (DiE p []))) := by
  have nf : p ∉ s.X := fun z => rp.xs p z hp
  have up : Sub (c.hid s.X H) ((c.kn N Z p s.X (upd H p (.ext (DiE p [])))).hid s.X (upd H p (.ext (DiE p [])))) := fun b o eb => by
    obtain ⟨z1, z2, z3⟩ := wo_all eb
    have nb : b ≠ p := fun z => by rw [z, hp] at z2; cases z2
    refine wo_of (fun z => ?_) (by rw [upd_ne nb]; exact z2) z3
    rcases List.mem_append.mp z with z | z
    · simp [Ml] at z; exact nb z
    · exact z1 (List.mem_append_right _ z)
  have le : σ.length = s.sl.length := rp.len.symm
  refine ⟨Sub.refl _, fun _ _ _ _ => rfl, fun _ h => h, fun a ha z => ?_, fun a ha => ?_, ?_, fun j x e => ?_, fun j k a b ds es e1 _ _ => ?_, by show ((s.sl.map Sl.nO).set i _).length = (σ.set i _).length; rw [List.length_set, List.length_map, List.length_set]; exact rp.len, .refl, fun a ha ps => ?_⟩
  · simp [Ml] at z
    rw [z] at ha
    exact nf ha
  · rw [upd_ne fun z => nf (by rw [← z]; exact ha)]
    exact rp.xs a ha
  · exact .ofK rfl ⟨[], upd_same, rfl, rfl, fun x hx => (nomatch hx), fun x hx => (nomatch hx), fun x hx => (nomatch hx), List.nodup_nil, hz, fun p hp => (nomatch hp)⟩
  · have e : ((s.sl.map Sl.nO).set i (.kds N Z))[j]? = some x := e
    by_cases hj : i = j
    · subst hj
      rw [List.getElem?_set_self (by rw [List.length_map]; exact hi)] at e
      cases e
      exact ⟨mcK c.K N Z p, ⟨rfl, rfl⟩, List.getElem?_set_self (by omega)⟩
    · rw [List.getElem?_set_ne hj, List.getElem?_map] at e
      obtain ⟨y, hy, rfl⟩ := Option.map_eq_some_iff.mp e
      have q := rp.slot j y hy
      show SlOk _ _ _ (σ.set i (some (.ref p)))[j]? _
      rw [List.getElem?_set_ne hj]
      cases y with
      | no => trivial
      | dat d =>
        obtain ⟨v, e, h⟩ := q
        exact ⟨v, e, h.mono up⟩
      | own a ds => trivial
      | mst => trivial
      | kds N Z => trivial
      | scr ns =>
        obtain ⟨v, e, h⟩ := q
        exact ⟨v, e, up.sl h⟩
  · have e1 : ((s.sl.map Sl.nO).set i (.kds N Z))[j]? = some (.own a ds) := e1
    by_cases hj : i = j
    · subst hj
      rw [List.getElem?_set_self (by rw [List.length_map]; exact hi)] at e1
      cases e1
    · rw [List.getElem?_set_ne hj, List.getElem?_map] at e1
      obtain ⟨y, hy, e2⟩ := Option.map_eq_some_iff.mp e1
      cases y <;> cases e2
  · rw [upd_ne fun z => nf (by rw [← z]; exact ha)]
    exact rp.xt a ha ps
theorem Rep.bk {c : C} {s : S} {σ : L2.St} {H : Hp} {p : Addr} {N : List Int → Int} {Z : List (List Int)} (rp : Rep c s σ H) (hM : c.M = none) (hp : H p = none) {k : Nat} {s2 : S} {τ : L2.St} {G : Hp} (r2 : Rep (c.kn N Z p s.X (upd H p (.ext (DiE p [])))) s2 τ G) :
    Rep c ⟨s.X, List.replicate τ.length .no, k⟩ τ G ∧ Sub ((c.kn N Z p s.X (upd H p (.ext (DiE p [])))).hid s2.X G) (c.hid s.X G) := by
  have nf : p ∉ s.X := fun z => rp.xs p z hp
  have up : Sub (c.hid s.X H) ((c.kn N Z p s.X (upd H p (.ext (DiE p [])))).hid s.X (upd H p (.ext (DiE p [])))) := fun b o eb => by
    obtain ⟨z1, z2, z3⟩ := wo_all eb
    have nb : b ≠ p := fun z => by rw [z, hp] at z2; cases z2
    refine wo_of (fun z => ?_) (by rw [upd_ne nb]; exact z2) z3
    rcases List.mem_append.mp z with z | z
    · simp [Ml] at z; exact nb z
    · exact z1 (List.mem_append_right _ z)
  have dn : Sub ((c.kn N Z p s.X (upd H p (.ext (DiE p [])))).hid s2.X G) (c.hid s.X G) := wo_more fun b hb => by
    rw [hM] at hb
    rcases List.mem_append.mp hb with hb | hb
    · simp [Ml] at hb
    · exact List.mem_append_right _ (r2.x0 b hb)
  have same : ∀ a ∈ s.X, G a = H a := fun a ha => by
    have na : a ≠ p := fun z => nf (by rw [← z]; exact ha)
    have e := r2.old a ha (fun z => by simp [Ml] at z; exact na z) (by show upd H p _ a ≠ none; rw [upd_ne na]; exact rp.xs a ha)
    rw [e]
    exact upd_ne na
  have tb : TbK H G := (TbK.new hp).trans r2.tb
  refine ⟨⟨((rp.sub.trans up).trans r2.sub).trans dn, fun a ha hm hn => ?_, rp.x0, rp.xm, fun a ha => by rw [same a ha]; exact rp.xs a ha, by rw [hM]; trivial, fun i x e => ?_, fun i j a b ds es e1 _ _ => ?_, List.length_replicate, rp.tb.trans tb, fun a ha ps => by rw [same a ha]; exact rp.xt a ha ps⟩, dn⟩
  · rw [same a (rp.x0 a ha)]
    exact rp.old a ha hm hn
  · have e : (List.replicate τ.length Sl.no)[i]? = some x := e
    rw [List.getElem?_replicate] at e
    split at e
    · cases e; trivial
    · cases e
  · have e1 : (List.replicate τ.length Sl.no)[i]? = some (.own a ds) := e1
    rw [List.getElem?_replicate] at e1
    split at e1 <;> cases e1
def Out (c' c : C) : Prop := ∀ (s2 : S) (τ : L2.St) (G : Hp), Rep c' s2 τ G → ∃ s3 : S, s3.k = s2.k ∧ Rep c s3 τ G ∧ Sub (c'.hid s2.X G) (c.hid s3.X G)
theorem Rep.out {c : C} {s : S} {σ : L2.St} {H : Hp} {p : Addr} {N : List Int → Int} {Z : List (List Int)} (rp : Rep c s σ H) (hM : c.M = none) (hp : H p = none) : Out (c.kn N Z p s.X (upd H p (.ext (DiE p [])))) c := fun s2 τ G r2 =>
  ⟨⟨s.X, List.replicate τ.length .no, s2.k⟩, rfl, (rp.bk hM hp (k := s2.k) r2).1, (rp.bk hM hp (k := s2.k) r2).2⟩
theorem Fin.bk {c : C} {s : S} {σ : L2.St} {H : Hp} {p : Addr} {N : List Int → Int} {Z : List (List Int)} (rp : Rep c s σ H) (hM : c.M = none) (hp : H p = none) {k : Nat} {G : Hp} (fi : Fin (c.kn N Z p s.X (upd H p (.ext (DiE p [])))) G k) :
    Fin c G k ∧ Sub ((c.kn N Z p s.X (upd H p (.ext (DiE p [])))).hid s.X G) (c.hid c.X0 G) := by
  have nf : p ∉ s.X := fun z => rp.xs p z hp
  have up : Sub (c.hid s.X H) ((c.kn N Z p s.X (upd H p (.ext (DiE p [])))).hid s.X (upd H p (.ext (DiE p [])))) := fun b o eb => by
    obtain ⟨z1, z2, z3⟩ := wo_all eb
    have nb : b ≠ p := fun z => by rw [z, hp] at z2; cases z2
    refine wo_of (fun z => ?_) (by rw [upd_ne nb]; exact z2) z3
    rcases List.mem_append.mp z with z | z
    · simp [Ml] at z; exact nb z
    · exact z1 (List.mem_append_right _ z)
  have dn : Sub ((c.kn N Z p s.X (upd H p (.ext (DiE p [])))).hid s.X G) (c.hid c.X0 G) := wo_more fun b hb => by
    rw [hM] at hb
    rcases List.mem_append.mp hb with hb | hb
    · simp [Ml] at hb
    · exact List.mem_append_right _ (rp.x0 b hb)
  refine ⟨⟨((rp.sub.trans up).trans fi.sub).trans dn, fun a ha hm hn => ?_, by rw [hM]; trivial, rp.tb.trans ((TbK.new hp).trans fi.tb)⟩, dn⟩
  have ha2 := rp.x0 a ha
  have na : a ≠ p := fun z => nf (by rw [← z]; exact ha2)
  have e := fi.old a ha2 (fun z => by simp [Ml] at z; exact na z) (by show upd H p _ a ≠ none; rw [upd_ne na]; exact rp.xs a ha2)
  rw [e]
  show upd H p _ a = _
  rw [upd_ne na]
  exact rp.old a ha hm hn
end DL
set_option maxHeartbeats 1000000
namespace BW
open PySem L2 DL
def cnF (T : Mat) : Nat → List Int → Int
  | 0, _ => 1
  | n + 1, r => if fall r = [] then 1 else ((fall r).map fun a => cnF T n (press T r (ix a))).sum
theorem exS {T : Mat} (ht : Tab T) {x : List Int} (hx : Wd T.length x) {i : Nat} (hi : i < T.length) (hn : (row T x).getD i 0 < 0) : ∃ z : List Int, z.Sublist x ∧ z.length + 1 = x.length ∧ press T (row T x) i = row T z := by
  have C := car_of ht
  have l := lets_of hx
  have hn0 := hn
  rw [row_hv hx hi] at hn
  obtain ⟨u, b, v, e, h⟩ := TT.exch2 C hi l (TT.hv_neg_iff C hi l hn)
  obtain ⟨U, R, rfl, rfl, e2⟩ := List.map_eq_append_iff.mp e
  obtain ⟨B, V, rfl, rfl, rfl⟩ := List.map_eq_cons_iff.mp e2
  have hs : (U ++ V).Sublist (U ++ B :: V) := (List.Sublist.refl U).append (List.sublist_cons_self B V)
  have wz : Wd T.length (U ++ V) := wd_sub hs hx
  have wx : Wd T.length ((U ++ B :: V) ++ [(i : Int) + 1]) := wd_app hx (wd_one hi)
  refine ⟨U ++ V, hs, by simp; omega, ?_⟩
  have e4 : press T (row T (U ++ B :: V)) i = row T ((U ++ B :: V) ++ [(i : Int) + 1]) := by rw [row_snoc, ix_succ]
  rw [e4]
  refine (row_eq_iff wx wz).mpr ?_
  refine TT.Rw.of_map fun y hy => ?_
  have := h y hy
  have e3 : ((U ++ B :: V) ++ [(i : Int) + 1]).map ix = (U ++ B :: V).map ix ++ [i] := by rw [List.map_append]; simp [ix_succ]
  rw [e3, this, List.map_append]
theorem fall_dn {T : Mat} (ht : Tab T) {x : List Int} (hx : Wd T.length x) {a : Int} (ha : a ∈ fall (row T x)) : ∃ z : List Int, z.Sublist x ∧ z.length + 1 = x.length ∧ press T (row T x) (ix a) = row T z ∧ 1 ≤ a ∧ a ≤ T.length := by
  obtain ⟨i, rfl, hi, hn⟩ := fall_mem ha
  rw [row_length] at hi
  obtain ⟨z, h1, h2, h3⟩ := exS ht hx hi hn
  exact ⟨z, h1, h2, by rw [ix_succ]; exact h3, by omega, by omega⟩
theorem cn_stable {T : Mat} (ht : Tab T) : ∀ (n : Nat) {x : List Int}, Wd T.length x → x.length ≤ n → ∀ m, n ≤ m → cnF T m (row T x) = cnF T n (row T x)
  | 0, x, hx, hl, m, _ => by
    have : x = [] := List.length_eq_zero_iff.mp (by omega)
    subst this
    cases m with
    | zero => rfl
    | succ m =>
      have : fall (row T []) = [] := by
        cases e : fall (row T []) with
        | nil => rfl
        | cons a l =>
          obtain ⟨z, _, h, _⟩ := fall_dn ht (x := []) hx (a := a) (by rw [e]; exact List.mem_cons_self)
          exact absurd h (by simp)
      show (if fall (row T []) = [] then 1 else _) = 1
      rw [if_pos this]
  | n + 1, x, hx, hl, m, hm => by
    obtain ⟨m, rfl⟩ : ∃ m', m = m' + 1 := ⟨m - 1, by omega⟩
    show (if fall (row T x) = [] then 1 else ((fall (row T x)).map fun a => cnF T m (press T (row T x) (ix a))).sum) = if fall (row T x) = [] then 1 else ((fall (row T x)).map fun a => cnF T n (press T (row T x) (ix a))).sum
    have : (fall (row T x)).map (fun a => cnF T m (press T (row T x) (ix a))) = (fall (row T x)).map fun a => cnF T n (press T (row T x) (ix a)) := List.map_congr_left fun a ha => by
      obtain ⟨z, h1, h2, h3, _⟩ := fall_dn ht hx ha
      rw [h3]
      exact cn_stable ht n (wd_sub h1 hx) (by omega) m (by omega)
    rw [this]
def cn (T : Mat) (r : List Int) : Int := cnF T 61 r
end BW
set_option maxHeartbeats 1000000
namespace BW
open PySem L2 DL
theorem rev_ok {n : Nat} {w : List Int} (h : Wd n w) : Wd n w.reverse := fun a ha => h a (List.mem_reverse.mp ha)
end BW
namespace DL
open PySem L2
open PySem.W (Frag)
end DL
set_option maxHeartbeats 1000000
namespace BW
open PySem L2 DL
section
variable {BC : Addr} {T : Mat} {w : List Int} {p : Nat} {a n : Int} {X : List Addr} {k : Nat} {x4 x5 x6 x7 x8 : Sl} {DD : DEnds} {Z : List (List Int)}
theorem fall_le (r : List Int) : (fall r).length ≤ r.length := by
  unfold fall
  rw [List.length_map]
  refine Nat.le_trans (List.length_filter_le _ _) ?_
  rw [List.length_range]; exact Nat.le_refl _
end
end BW
set_option maxHeartbeats 1000000
namespace BW
open PySem L2 DL
def spF (T : Mat) : Nat → List Int → List (List Int)
  | 0, _ => [[]]
  | n + 1, r => if fall r = [] then [[]] else (fall r).flatMap fun a => (spF T n (press T r (ix a))).map (a :: ·)
theorem sum_cast {α : Type} (f : α → Nat) : ∀ l : List α, (((l.map f).sum : Nat) : Int) = (l.map fun a => (f a : Int)).sum
  | [] => rfl
  | a :: l => by rw [List.map_cons, List.sum_cons, List.map_cons, List.sum_cons, Int.natCast_add, sum_cast f l]
theorem cnF_len (T : Mat) : ∀ (n : Nat) (r : List Int), cnF T n r = ((spF T n r).length : Int)
  | 0, _ => rfl
  | n + 1, r => by
    show (if fall r = [] then 1 else ((fall r).map fun a => cnF T n (press T r (ix a))).sum) = (((if fall r = [] then [[]] else (fall r).flatMap fun a => (spF T n (press T r (ix a))).map (a :: ·)) : List (List Int)).length : Int)
    by_cases e : fall r = []
    · rw [if_pos e, if_pos e]; rfl
    · rw [if_neg e, if_neg e, List.length_flatMap, sum_cast]
      refine congrArg List.sum (List.map_congr_left fun a _ => ?_)
      rw [List.length_map]
      exact cnF_len T n _
theorem spF_stable {T : Mat} (ht : Tab T) : ∀ (n : Nat) {x : List Int}, Wd T.length x → x.length ≤ n → ∀ m, n ≤ m → spF T m (row T x) = spF T n (row T x)
  | 0, x, hx, hl, m, _ => by
    have : x = [] := List.length_eq_zero_iff.mp (by omega)
    subst this
    cases m with
    | zero => rfl
    | succ m =>
      have : fall (row T []) = [] := fall_one1 T
      show (if fall (row T []) = [] then [[]] else _) = [[]]
      rw [if_pos this]
  | n + 1, x, hx, hl, m, hm => by
    obtain ⟨m, rfl⟩ : ∃ m', m = m' + 1 := ⟨m - 1, by omega⟩
    show (if fall (row T x) = [] then [[]] else (fall (row T x)).flatMap fun a => (spF T m (press T (row T x) (ix a))).map (a :: ·)) = if fall (row T x) = [] then [[]] else (fall (row T x)).flatMap fun a => (spF T n (press T (row T x) (ix a))).map (a :: ·)
    by_cases e : fall (row T x) = []
    · rw [if_pos e, if_pos e]
    · rw [if_neg e, if_neg e, List.flatMap_def, List.flatMap_def]
      refine congrArg List.flatten (List.map_congr_left fun a ha => ?_)
      obtain ⟨z, h1, h2, h3, _⟩ := fall_dn ht hx ha
      rw [h3, spF_stable ht n (wd_sub h1 hx) (by omega) m (by omega)]
def spS (T : Mat) (r : List Int) : List (List Int) := spF T 61 r
theorem cn_len (T : Mat) (r : List Int) : cn T r = ((spS T r).length : Int) := cnF_len T 61 r
theorem spS_eq {T : Mat} (ht : Tab T) {x : List Int} (hx : Wd T.length x) (hl : x.length ≤ 60) : spS T (row T x) = if fall (row T x) = [] then [[]] else (fall (row T x)).flatMap fun a => (spS T (press T (row T x) (ix a))).map (a :: ·) := by
  show (if fall (row T x) = [] then [[]] else (fall (row T x)).flatMap fun a => (spF T 60 (press T (row T x) (ix a))).map (a :: ·)) = _
  by_cases e : fall (row T x) = []
  · rw [if_pos e, if_pos e]
  · rw [if_neg e, if_neg e, List.flatMap_def, List.flatMap_def]
    refine congrArg List.flatten (List.map_congr_left fun a ha => ?_)
    obtain ⟨z, h1, h2, h3, _⟩ := fall_dn ht hx ha
    rw [h3]
    show _ = (spF T 61 (row T z)).map (a :: ·)
    rw [spF_stable ht 60 (wd_sub h1 hx) (by omega) 61 (by omega)]
structure Spl (T : Mat) (x u : List Int) : Prop where
  wd : Wd T.length u
  ln : LN T x u.length
  end_ : row T (x ++ u) = one T
theorem spS_spl {T : Mat} (ht : Tab T) : ∀ (n : Nat) {x : List Int}, Wd T.length x → x.length ≤ n → n ≤ 60 → ∀ u ∈ spS T (row T x), Spl T x u
  | n, x, hx, hl, hn, u, hu => by
    obtain ⟨k, hk, hkl⟩ := LN.has hx
    rw [spS_eq ht hx (by omega)] at hu
    by_cases e : fall (row T x) = []
    · rw [if_pos e] at hu
      have := List.mem_singleton.mp hu
      subst this
      obtain ⟨h1, h2⟩ := hk.none ht hx e
      subst h1
      exact ⟨fun a ha => (nomatch ha), hk, by rw [List.append_nil]; exact h2⟩
    · rw [if_neg e] at hu
      obtain ⟨a, ha, hu⟩ := List.mem_flatMap.mp hu
      obtain ⟨v, hv, rfl⟩ := List.mem_map.mp hu
      obtain ⟨z, h1, h2, h3, h4, h5⟩ := fall_dn ht hx ha
      obtain ⟨j, e1, e2, e3, e4⟩ := hk.step ht hx ha
      rw [h3] at hv
      have wz := wd_sub h1 hx
      match n, hl, hn with
      | 0, hl, _ => exact absurd h2 (by omega)
      | n + 1, hl, hn =>
        have s := spS_spl ht n wz (by omega) (by omega) v hv
        have er : row T z = row T (x ++ [a]) := by rw [← h3, ← e4]
        refine ⟨fun b hb => ?_, ?_, ?_⟩
        · rcases List.mem_cons.mp hb with rfl | hb
          · exact ⟨h4, h5⟩
          · exact s.wd b hb
        · have := (e2.cong e3 wz er.symm).uniq s.ln
          rw [List.length_cons, ← this, ← e1]
          exact hk
        · have := row_app (z := v) er
          rw [s.end_, List.append_assoc] at this
          exact this.symm
theorem spl_row {T : Mat} (ht : Tab T) {w u : List Int} (hw : Wd T.length w) (s : Spl T w.reverse u) : row T u = row T w := by
  have e1 : row T ([] ++ u.reverse) = row T w.reverse := row_back ht s.wd (by rw [s.end_]; rfl)
  rw [List.nil_append] at e1
  have e2 := row_rev ht (wd_rev s.wd) (wd_rev hw) e1
  rw [List.reverse_reverse, List.reverse_reverse] at e2
  exact e2
theorem spS_head {T : Mat} (ht : Tab T) : ∀ (k : Nat) {x : List Int} {f : Nat}, Wd T.length x → x.length ≤ 60 → LN T x k → k ≤ f → (spS T (row T x))[0]? = some (wd T f (row T x)).1
  | k, x, f, hx, hl, hk, hf => by
    rw [spS_eq ht hx hl]
    cases e : fall (row T x) with
    | nil =>
      rw [wd_nil e]
      rfl
    | cons a l =>
      have ha : a ∈ fall (row T x) := by rw [e]; exact List.mem_cons_self
      obtain ⟨z, h1, h2, h3, _⟩ := fall_dn ht hx ha
      obtain ⟨j, e1, e2, e3, e4⟩ := hk.step ht hx ha
      have wz := wd_sub h1 hx
      have er : row T (x ++ [a]) = row T z := by rw [← e4]; exact h3
      match k, f, e1, hf with
      | k + 1, f + 1, e1, hf =>
        have ej : j = k := by omega
        subst ej
        have ih := spS_head ht j (f := f) wz (by omega) (e2.cong e3 wz er) (by omega)
        rw [if_neg (by simp), List.flatMap_cons]
        rw [← h3] at ih
        rw [List.getElem?_append_left (by rw [List.length_map]; exact (List.getElem?_eq_some_iff.mp ih).1), List.getElem?_map, ih]
        rw [wd_cons e]
        rfl
end BW
set_option maxHeartbeats 1000000
namespace BW
open PySem L2 DL
theorem sum_bd {B : Int} : ∀ {l : List Int}, (∀ x ∈ l, 0 ≤ x ∧ x ≤ B) → 0 ≤ l.sum ∧ l.sum ≤ B * l.length
  | [], _ => ⟨by decide, by simp⟩
  | a :: l, h => by
    have ih := sum_bd (l := l) fun x hx => h x (List.mem_cons_of_mem _ hx)
    have ha := h a List.mem_cons_self
    rw [List.sum_cons, List.length_cons]
    have e : B * ((l.length + 1 : Nat) : Int) = B * (l.length : Int) + B := by
      rw [Int.natCast_add, Int.mul_add]; simp
    rw [e]
    omega
end BW
set_option maxHeartbeats 1000000
namespace BW
open PySem L2 DL
theorem unL_any {T : Mat} (ht : Tab T) {u v : List Int} (hu : Wd T.length u) (hv : Wd T.length v) (su : Sh T u) (sv : Sh T v) (e : row T u = row T v) : unL T u = unL T v := by
  have nd := unL_nodup T u
  have e1 : (unL T u).mergeSort leI = unL T u := unL_is nd fun r => mem_unL
  have e2 : (unL T u).mergeSort leI = unL T v := unL_is nd fun r => by
    rw [mem_unL]
    constructor
    · rintro ⟨x, hx, rfl⟩
      exact und_any ht hu hv su sv e ⟨x, hx, rfl⟩
    · rintro ⟨x, hx, rfl⟩
      exact und_any ht hv hu sv su e.symm ⟨x, hx, rfl⟩
  rw [← e1, e2]
theorem und_rev {T : Mat} (ht : Tab T) {y o : List Int} (hy : Wd T.length y) (ho : Wd T.length o) (g : Und T y o) : Und T y.reverse o.reverse := by
  obtain ⟨x, h1, h2⟩ := g
  exact ⟨x.reverse, h1.reverse, row_rev ht (wd_sub h1 hy) ho h2⟩
theorem ub_rev {T : Mat} (ht : Tab T) {o w : List Int} (ho : Wd T.length o) (hw : Wd T.length w) (lw_ : w.length ≤ 60) : ub T o.reverse w.reverse = ub T o w := by
  have key : ∀ {o w : List Int}, Wd T.length o → Wd T.length w → w.length ≤ 60 → ub T o w = true → ub T o.reverse w.reverse = true := fun {o w} ho hw hl h => by
    have hl2 : w.reverse.length ≤ 60 := by rw [List.length_reverse]; exact hl
    obtain ⟨a1, a2, a3, a4⟩ := lw_row2 ht hw hl
    obtain ⟨b1, b2, b3, b4⟩ := lw_row2 ht (wd_rev hw) hl2
    refine (ub_iff ht (wd_rev ho) (wd_rev hw) hl2).mpr ?_
    have g := und_rev ht a2 ho ((ub_iff ht ho hw hl).mp h)
    have sr : Sh T (lw T w).reverse := by
      have := LN.rev ht a2 a4
      show LN T _ _
      rw [List.length_reverse]
      exact this
    exact und_any ht (wd_rev a2) b2 sr b4 ((row_rev ht a2 hw a1).trans b1.symm) g
  have e : ub T o w = true ↔ ub T o.reverse w.reverse = true := ⟨key ho hw lw_, fun h => by
    have := key (wd_rev ho) (wd_rev hw) (by rw [List.length_reverse]; exact lw_) h
    rw [List.reverse_reverse, List.reverse_reverse] at this
    exact this⟩
  cases h1 : ub T o w with
  | true => exact e.mp h1
  | false =>
    cases h2 : ub T o.reverse w.reverse with
    | false => rfl
    | true =>
      rw [e.mpr h2] at h1
      cases h1
def lessW (T : Mat) (o : List Int) (a : Int) : List Int := if a ∈ fall (row T o) then o ++ [a] else o
theorem last_fall {T : Mat} (ht : Tab T) {z : List Int} {i : Nat} (hz : Wd T.length z) (hi : i < T.length) (s : Sh T (z ++ [(i : Int) + 1])) : ((i : Int) + 1) ∈ fall (row T (z ++ [(i : Int) + 1])) := by
  have wz : Wd T.length (z ++ [(i : Int) + 1]) := wd_app hz (wd_one hi)
  obtain ⟨k, hk, hl⟩ := LN.has hz
  have back : LN T (z ++ [(i : Int) + 1] ++ [(i : Int) + 1]) k := hk.cong hz (wd_app wz (wd_one hi)) (row_undo ht hi).symm
  have m := LN.more ht wz s hi
  by_cases c : ((i : Int) + 1) ∈ fall (row T (z ++ [(i : Int) + 1]))
  · exact c
  · rw [if_neg c] at m
    have := m.uniq back
    rw [List.length_append, List.length_singleton] at this
    omega
theorem lift1 {T : Mat} (ht : Tab T) {z o : List Int} {i : Nat} (hz : Wd T.length z) (ho : Wd T.length o) (hi : i < T.length) : Und T (z ++ [(i : Int) + 1]) o ↔ Und T z (lessW T o ((i : Int) + 1)) := by
  have wz : Wd T.length (z ++ [(i : Int) + 1]) := wd_app hz (wd_one hi)
  unfold lessW
  constructor
  · rintro ⟨x, hx, e⟩
    obtain ⟨b, b1, b2, b3⟩ := sub_short ht _ (Nat.le_refl _) (wd_sub hx wz)
    have eb : row T b = row T o := b3.trans e
    obtain ⟨p, q, rfl, hp, hq⟩ := List.sublist_append_iff.mp (b1.trans hx)
    have wp := wd_sub hp hz
    have q01 : q = [] ∨ q = [(i : Int) + 1] := by
      cases hq with
      | cons _ h => exact .inl (List.sublist_nil.mp h)
      | cons_cons _ h => exact .inr (by rw [List.sublist_nil.mp h])
    rcases q01 with rfl | rfl
    · rw [List.append_nil] at eb b2
      by_cases c : ((i : Int) + 1) ∈ fall (row T o)
      · rw [if_pos c]
        obtain ⟨y, y1, _, y3, _⟩ := fall_dn ht wp (a := (i : Int) + 1) (by rw [eb]; exact c)
        refine ⟨y, y1.trans hp, ?_⟩
        rw [row_snoc, ← eb]
        exact y3.symm
      · rw [if_neg c]
        exact ⟨p, hp, eb⟩
    · have c : ((i : Int) + 1) ∈ fall (row T o) := by
        rw [← eb]
        exact last_fall ht wp hi b2
      rw [if_pos c]
      refine ⟨p, hp, ?_⟩
      have := row_app (z := [(i : Int) + 1]) eb
      rw [row_undo ht hi] at this
      exact this
  · by_cases c : ((i : Int) + 1) ∈ fall (row T o)
    · rw [if_pos c]
      rintro ⟨x, hx, e⟩
      refine ⟨x ++ [(i : Int) + 1], hx.append (List.Sublist.refl _), ?_⟩
      have := row_app (z := [(i : Int) + 1]) e
      rw [row_undo ht hi] at this
      exact this
    · rw [if_neg c]
      rintro ⟨x, hx, e⟩
      exact ⟨x, hx.trans (List.sublist_append_left _ _), e⟩
theorem ub_lift {T : Mat} (ht : Tab T) {o w : List Int} {a : Int} (ho : Wd T.length o) (hw : Wd T.length w) (hl : w.length ≤ 59) (ha : a ∈ fall (row T w)) : ub T (lessW T o a) (w ++ [a]) = ub T o w := by
  obtain ⟨z0, d1, d2, d3, d4, d5⟩ := fall_dn ht hw ha
  obtain ⟨i, rfl⟩ : ∃ i : Nat, a = (i : Int) + 1 := ⟨(a - 1).toNat, by omega⟩
  have hi : i < T.length := by omega
  have wa : Wd T.length (w ++ [(i : Int) + 1]) := wd_app hw (wd_one hi)
  have la : (w ++ [(i : Int) + 1]).length ≤ 60 := by rw [List.length_append, List.length_singleton]; omega
  obtain ⟨a1, a2, a3, a4⟩ := lw_row2 ht hw (by omega)
  obtain ⟨b1, b2, b3, b4⟩ := lw_row2 ht wa la
  have wo : Wd T.length (lessW T o ((i : Int) + 1)) := by
    unfold lessW
    by_cases c : ((i : Int) + 1) ∈ fall (row T o)
    · rw [if_pos c]; exact wd_app ho (wd_one hi)
    · rw [if_neg c]; exact ho
  -- z: the shortest word of w's row behind the letter
  have eq : row T (lw T (w ++ [(i : Int) + 1]) ++ [(i : Int) + 1]) = row T w := by
    have := row_app (z := [(i : Int) + 1]) b1
    rw [this, row_undo ht hi]
  have sz : Sh T (lw T (w ++ [(i : Int) + 1]) ++ [(i : Int) + 1]) := by
    obtain ⟨k, hk, _⟩ := LN.has hw
    obtain ⟨j, e1, e2, e3, e4⟩ := hk.step ht hw ha
    have er : row T (w ++ [(i : Int) + 1]) = row T (w ++ [(i : Int) + 1]) := rfl
    have lj : (lw T (w ++ [(i : Int) + 1])).length = j := (b4.cong b2 wa b1).uniq e2
    have := hk.cong hw (wd_app b2 (wd_one hi)) eq.symm
    show LN T _ _
    rw [List.length_append, List.length_singleton, lj, ← e1]
    exact this
  have m1 : ub T (lessW T o ((i : Int) + 1)) (w ++ [(i : Int) + 1]) = true ↔ ub T o w = true := by
    rw [ub_iff ht wo wa la, ub_iff ht ho hw (by omega), ← lift1 ht b2 ho hi]
    exact ⟨fun g => und_any ht (wd_app b2 (wd_one hi)) a2 sz a4 (eq.trans a1.symm) g, fun g => und_any ht a2 (wd_app b2 (wd_one hi)) a4 sz (a1.trans eq.symm) g⟩
  cases h1 : ub T o w with
  | true => exact m1.mpr h1
  | false =>
    cases h2 : ub T (lessW T o ((i : Int) + 1)) (w ++ [(i : Int) + 1]) with
    | false => rfl
    | true =>
      rw [m1.mp h2] at h1
      cases h1
end BW
set_option maxHeartbeats 1000000
namespace DL
open PySem PySem.Spec PyProof.Rows L2
open PySem.W (Frag)
abbrev DSpG := List D → (List D → Prop) → (D → Prop) → Prop
def spDG (K : Frag) (sp : DSpG) : SpG := fun vs H Q E => ∃ (X0 : List Addr) (ds : List D) (R : List D → Prop) (Ex : D → Prop), Ahd K none X0 H 0 vs ds ∧ sp ds R Ex ∧
  (∀ es, R es → ∀ ys H', Aft K none X0 H H' 0 → RlA K (wo H' X0) ys es → Q ys H') ∧ ∀ d, Ex d → ∀ cls dd H', Aft K none X0 H H' 0 → XRl K (wo H' X0) cls dd d → E cls dd H'
structure CalGen (P : Program) (w : World) (K : Frag) (mg : PySem.Str → Option Value) (base : Heap) (k : Nat) (x : PySem.Str) (sp : DSpG) : Prop where
  ex : ∃ f fd ps, GFn P w K mg base k f fd ps (spDG K sp) ∧ mg x = some (.ref f) ∧ PySem.W.keepIn K (.ref f) = true ∧ Binds K fd ps []
section
variable {X : Cx} {k : Nat} {e : Expr} {p pos : Pos}
theorem pe_listS {E : L2.St → XK} {tg : L2.St → TGen} {nm : PySem.Str} (h : ∀ σ, PGen X k e (tg σ) (E σ)) (hx : ∀ σ, PassesAt (L2.CX X.prog X.w) X σ (E σ)) (hns : ∀ σ, NoStop X.K (E σ)) (hr : Room (k + 3) X.A) (hg : Gl X nm) (hmg : X.mg nm = none) (hv : bootBuiltins nm = some (.type "list")) (hnm : nm ≠ "__name__" := by decide) (hdb : (nm == ("__debug__" : PySem.Str)) = false := by decide)
    (he : starEach [e] X.env = (false, eval e X.env) :: starEach [] X.env := by rfl) : PE X (.Call (.Name nm p) [e] [] pos) (fun σ H Q => tListG (tg σ) σ H Q) := by
  constructor
  intro pins s σ H Q I hq
  have once := (h σ).run pins s σ H _ I hq
  refine wpAny_Call_Name_kw (ld_blt I hg hmg hv (PyProof.Rows.callWith_type1 ?_ he rfl) hnm hdb)
  rw [he]
  refine show wpAny _ _ (spliced ((false, eval e X.env) :: backTo pos (starEach [] X.env))) _ _ s from Calls.spliced_cons (thn once ?_)
  rintro u s1 ⟨H1, sc, ex, I1, hex, hG⟩
  have hsz : sc.heap.objs.size ≤ s1.heap.objs.size := by
    obtain ⟨a, g, c, _, g1, g2, _⟩ := hG
    exact Nat.le_trans g1 (Nat.le_of_lt g2)
  refine Calls.spliced_nil (call_list_new hr I1.ok.frames hG ?_ ?_)
  · intro S s' acc c H' ys q0 q1 q2 hl q3 q4 q5 q6 q7 q8
    exact ⟨.ref S, upd H' S (.lst ys), I1.drained (Nat.le_trans hsz q0) hl q1 q2 hex q3 q4 q5 q6 q7, rfl, q8 S q7⟩
  · intro e' s' g hc
    have kin : X.K.In s'.heap := by
      obtain ⟨a, B, H', cls, d, _, fl, _, ub, _⟩ := id hc
      refine I1.ok.mod.kin.keeps fun b o eb => fl.1 b o (ub.keep b o (I1.bs b o eb).1 (I1.bs b o eb).2 fun hm => ?_)
      rcases List.mem_cons.mp (I1.stkSub b hm) with z | z
      · subst z
        exact absurd (Nat.lt_of_lt_of_le (Heap.lt_size eb) (Nat.le_trans I1.ok.bsz I1.ok.above)) (Nat.lt_irrefl _)
      · exact I1.ok.nofr eb z
    refine ⟨notStop_of (hns σ) kin hc, hx σ pins H1 sc e' _ I1 ?_⟩
    obtain ⟨a, B, H', cls, d, z1, fl, z2, ub, z3, z4, z5, z6⟩ := hc
    exact ⟨a, B, H', cls, d, z1, fl, z2, ub, z3, z4, allBare_setGen z5 rfl, z6⟩
end
end DL
set_option maxHeartbeats 1000000
namespace DL
open PySem PySem.Spec PyProof.Rows L2
open PySem.W (Frag)
end DL
set_option maxHeartbeats 1000000
namespace DL
open PySem PySem.Spec PyProof.Rows L2
open PySem.W (Frag)
end DL
set_option maxHeartbeats 1000000
namespace L2
open PySem PySem.Spec PyProof.Rows GenW
section
variable {X : Cx} {st : Stmt} {rest : List Stmt} {pos : Pos}
theorem GS.weak {t t' : TGn} (h : GS X st t) (w : ∀ D ys σ H, t' D ys σ H → t D ys σ H) : GS X st t' := ⟨fun A S ip R n ys s₀ c fs K J gd lv s σ H D g hn k I q => h.run A S ip R n ys s₀ c fs K J gd lv s σ H D g hn k I (w _ _ _ _ q)⟩
theorem GSs.weak {t t' : TGn} (h : GSs X rest t) (w : ∀ D ys σ H, t' D ys σ H → t D ys σ H) : GSs X rest t' := ⟨fun A S ip R n ys s₀ c fs K J gd lv s σ H D g hn k I q => h.run A S ip R n ys s₀ c fs K J gd lv s σ H D g hn k I (w _ _ _ _ q)⟩
def tGIf (c : TT) (t u : TGn) : TGn := fun D ys σ H => c σ H fun b H1 => if b = true then t D ys σ H1 else u D ys σ H1
theorem gs_if {c : Expr} {a b : List Stmt} {tc : TT} {t u : TGn} (hc : PT X c tc) (ha : GSs X a t) (hb : GSs X b u) : GS X (.If c a b pos) (tGIf tc t u) := by
  refine ⟨fun A S ip R n ys s₀ cd fs K J gd lv s σ H D g hn k hI ht => ?_⟩
  rw [exec_If]
  show Seg _ _ _ _ n s₀ cd (.at pos fun _ => ((isTrue c X.env (eval c X.env) >>= fun b' => if b' = true then execs a X.env else execs b X.env) : Sem Flow).wrap K J gd lv) fs s
  refine seg_at ?_
  obtain ⟨acc, cc, r, I⟩ := hI
  refine seg_bind_wrap ?_
  rw [g.over]
  refine wpAny_mono (hc.run _ s σ H _ I ht) (fun v s' hv => ?_) fun x s' hx => k.exc _ s₀ x s' hx
  obtain ⟨H1, I1, q⟩ := hv
  cases v with
  | true => exact ha.run A S ip R n ys s₀ cd fs K J gd lv s' σ H1 D g hn k ⟨acc, cc, r, I1⟩ q
  | false => exact hb.run A S ip R n ys s₀ cd fs K J gd lv s' σ H1 D g hn k ⟨acc, cc, r, I1⟩ q
end
end L2
namespace DL
open PySem PySem.Spec PyProof.Rows L2
open PySem.W (Frag)
structure DGE where
  nx : List D → S → Prop
  bk : List D → S → Prop := fun _ _ => False
  ct : List D → S → Prop := fun _ _ => False
abbrev DGS := DGE → List D → S → Prop
abbrev DGE.at (E : DGE) (es : List D) : DEnds := { nx := E.nx es, rt := fun _ _ => False, bk := E.bk es, ct := E.ct es }
structure FitsG (c : C) (DD : DGE) (D : GEnds) : Prop where
  nx : ∀ s σ H ys es, Rep c s σ H → RlA c.K (c.hid s.X H) ys es → DD.nx es s → D.nx ys σ H
  bk : ∀ s σ H ys es, Rep c s σ H → RlA c.K (c.hid s.X H) ys es → DD.bk es s → D.bk ys σ H
  ct : ∀ s σ H ys es, Rep c s σ H → RlA c.K (c.hid s.X H) ys es → DD.ct es s → D.ct ys σ H
def LGn (c : C) (t : DGS) : TGn := fun D ys σ H => ∃ s es DD, Rep c s σ H ∧ RlA c.K (c.hid s.X H) ys es ∧ t DD es s ∧ FitsG c DD D
abbrev dgPl (t : DS) : DGS := fun DD es s => t (DD.at es) s
abbrev dgNext : DGS := fun DD es s => DD.nx es s
abbrev dgSeq (t u : DGS) : DGS := fun DD es s => t { DD with nx := u DD } es s
abbrev dgYield (t : DE) : DGS := fun DD es s => es.length < lim ∧ t s fun d k => DD.nx (es ++ [d]) (s.at k)
abbrev dgIf (tt : DT) (t u : DGS) : DGS := fun DD es s => tt s fun b k => if b = true then t DD es (s.at k) else u DD es (s.at k)
abbrev dgWhile (tt : DT) (tb : DGS) : DGS := fun DD es s => ∃ Inv : Nat → List D → S → Prop, (∃ m, Inv m es s) ∧ ∀ m es' s', Inv m es' s' → tt s' fun b k =>
  if b = true then tb { nx := fun es2 s2 => ∃ m', m' < m ∧ Inv m' es2 s2, ct := fun es2 s2 => ∃ m', m' < m ∧ Inv m' es2 s2, bk := DD.nx } es' (s'.at k) else DD.nx es' (s'.at k)
section
variable {X : Cx} {c : C} {pos : Pos}
theorem gd_plain {st : Stmt} {t : DS} (h : PS X st (LS c t)) : GS X st (LGn c (dgPl t)) :=
  (gs_ps h).weak fun D ys σ H ⟨s, es, DD, rp, er, q, f⟩ => ⟨s, DD.at es, rp, q, ⟨fun s' σ' H' r a q => f.nx s' σ' H' ys es r (er.mono a) q, fun s' σ' H' r a q => f.bk s' σ' H' ys es r (er.mono a) q, fun s' σ' H' r a q => f.ct s' σ' H' ys es r (er.mono a) q, fun _ _ _ _ _ _ z => z.elim⟩⟩
theorem gd_nil : GSs X [] (LGn c dgNext) := gss_nil.weak fun D ys σ H ⟨s, es, DD, rp, er, q, f⟩ => f.nx s σ H ys es rp er q
theorem gd_cons {st : Stmt} {r : List Stmt} {t u : DGS} (h1 : GS X st (LGn c t)) (h2 : GSs X r (LGn c u)) : GSs X (st :: r) (LGn c (dgSeq t u)) :=
  (gss_cons h1 h2).weak fun D ys σ H ⟨s, es, DD, rp, er, q, f⟩ => ⟨s, es, { DD with nx := u DD }, rp, er, q, ⟨fun s' σ' H' ys' es' r' e' q' => ⟨s', es', DD, r', e', q', f⟩, f.bk, f.ct⟩⟩
theorem gd_one {st : Stmt} {t : DGS} (h1 : GS X st (LGn c t)) : GSs X [st] (LGn c t) :=
  (gd_cons h1 gd_nil).weak fun D ys σ H ⟨s, es, DD, rp, er, q, f⟩ => ⟨s, es, DD, rp, er, q, f⟩
theorem gd_yield {e : Expr} {yp : Pos} {t : DE} (he : PE X e (LE c t)) (hco : X.env.scope.isCoroutine = false := by rfl) (hi : interactive X.env = false := by rfl) : GS X (.Expr (.Yield (some e) yp) pos) (LGn c (dgYield t)) :=
  (gs_yield he hco hi).weak fun D ys σ H ⟨s, es, DD, rp, er, ⟨hl, q⟩, f⟩ => ⟨by rw [er.len]; exact lim_lt (Nat.le_of_lt hl), s, _, rp, q, fun d k h v H1 r1 a1 e1 => f.nx _ σ H1 _ _ r1 ((er.mono a1.sub).app (.cons e1 .nil)) h⟩
theorem gd_if {t : Expr} {a b : List Stmt} {tt : DT} {ta tb : DGS} (ht : PT X t (LT c tt)) (ha : GSs X a (LGn c ta)) (hb : GSs X b (LGn c tb)) : GS X (.If t a b pos) (LGn c (dgIf tt ta tb)) :=
  (gs_if ht ha hb).weak fun D ys σ H ⟨s, es, DD, rp, er, q, f⟩ => ⟨s, _, rp, q, fun x k h H1 r1 a1 => by
    cases x with
    | true => exact ⟨s.at k, es, DD, r1, er.mono a1.sub, h, f⟩
    | false => exact ⟨s.at k, es, DD, r1, er.mono a1.sub, h, f⟩⟩
theorem gd_while {t : Expr} {body : List Stmt} {tt : DT} {tb : DGS} (hp : PassesOwn (model X.prog X.w) X.A X.env X.xe) (ht : PT X t (LT c tt)) (hb : GSs X body (LGn c tb)) : GS X (.While t body [] pos) (LGn c (dgWhile tt tb)) :=
  (gs_while hp ht hb).weak fun D ys σ H ⟨s, es, DD, rp, er, ⟨IV, ⟨m0, i0⟩, turn⟩, f⟩ => by
    refine ⟨fun m ys' σ' H' => ∃ s' es', IV m es' s' ∧ Rep c s' σ' H' ∧ RlA c.K (c.hid s'.X H') ys' es', ⟨m0, s, es, i0, rp, er⟩, ?_⟩
    rintro m ys' σ' H' ⟨s', es', hI, rp', er'⟩
    refine ⟨s', _, rp', turn m es' s' hI, fun b k h H1 r1 a1 => ?_⟩
    have er1 := er'.mono a1.sub
    cases b with
    | true =>
      refine iteT ⟨fun ys2 σ2 H2 => ∃ m', m' < m ∧ ∃ s2 es2, IV m' es2 s2 ∧ Rep c s2 σ2 H2 ∧ RlA c.K (c.hid s2.X H2) ys2 es2, fun ys2 σ2 H2 h => h, s'.at k, es', _, r1, er1, h, ?_⟩
      exact ⟨fun s4 σ4 H4 ys4 es4 r4 e4 ⟨m', hm, h4⟩ => ⟨m', hm, s4, es4, h4, r4, e4⟩, fun s4 σ4 H4 ys4 es4 r4 e4 h4 => f.nx s4 σ4 H4 ys4 es4 r4 e4 h4, fun s4 σ4 H4 ys4 es4 r4 e4 ⟨m', hm, h4⟩ => ⟨m', hm, s4, es4, h4, r4, e4⟩⟩
    | false => exact iteF (f.nx (s'.at k) σ' H1 ys' es' r1 er1 h)
theorem RlA.snoc {K : Frag} {A : Hp} {vs : List V} {ds : List D} {d : D} (h : RlA K A vs (ds ++ [d])) : ∃ v, vs[vs.length - 1]? = some v ∧ Rl K A v d ∧ RlA K A vs.dropLast ds := by
  have hl : vs.length = ds.length + 1 := by rw [h.len, List.length_append, List.length_singleton]
  obtain ⟨v, h1, h2⟩ := h.getD (i := ds.length) (d := d) (by simp)
  refine ⟨v, by rw [hl]; exact h1, h2, ?_⟩
  have q := h.take ds.length
  rw [List.take_left] at q
  rw [List.dropLast_eq_take, hl]
  exact q
abbrev dPop (i : Nat) (g : DG) : DS := fun DD s => ∃ p ds d, s.sl[i]? = some (.own p (ds ++ [d])) ∧ g d (s.put i (.own p ds)) DD.nx
theorem psd_popA (i : Nat) {x : PySem.Str} {pn apos cpos : Pos} {tg : Expr} {g : DG} {ts : List Nat} (hg : PG X tg (LG c ts g)) (hN : X.N[i]? = some x := by rfl) (hv : Vis X.env.scope x := by first | exact Or.inl rfl | exact Or.inr (Or.inl rfl) | exact Or.inr (Or.inr rfl)) (hd : (x == ("__debug__" : PySem.Str)) = false := by decide) (hcd : (x == ("__classdict__" : PySem.Str)) = false := by decide)
    (hbase : attributeBase (Expr.Name x pn) "pop" X.env (eval (Expr.Name x pn) X.env) = eval (Expr.Name x pn) X.env := by rfl) (hline : (apos.endLine == cpos.line) = true := by rfl)
    (hs : swapsWithSole [tg] (.Call (.Attribute (.Name x pn) "pop" apos) [] [] cpos) pos.line X.env = pure false := by rfl) (hw : swappedStores [tg] (.Call (.Attribute (.Name x pn) "pop" apos) [] [] cpos) X.env = pure none := by rfl)
    (h1 : (assignEach [tg] X.env).map (·.2) = [assign tg X.env] := by rfl) : PS X (.Assign [tg] (.Call (.Attribute (.Name x pn) "pop" apos) [] [] cpos) pos) (LS c (dPop i g)) :=
  (ps_asg (pe_bm0 PySem.F.plainAttrs_list PySem.F.slot_list_pop PySem.F.type_list_pop mt_pop (pe_var hN hv hd hcd) hbase hline) hg hs hw h1).weak fun D σ H ⟨s, DD, rp, ⟨p, ds, d, h, q⟩, f⟩ => by
    obtain ⟨e1, h1, h2, h3, vs, h4, h5⟩ := rp.slot i _ h
    obtain ⟨v, hv, e2, e3⟩ := h5.snoc
    refine ⟨_, e1, .inl ⟨rfl, _, SqL.of h4⟩, p, vs, v, rfl, rfl, h4, hv, ?_⟩
    have m := Rep.mut rp h e3
    exact ⟨s.put i (.own p ds), _, d, m.1, e2.mono m.2, q, fun s2 q2 σ2 H2 r2 a2 x2 _ _ => f.nx s2 σ2 H2 r2 (m.2.trans (x2 ▸ a2.sub)) q2⟩
end
section
variable {P : Program} {w : World} {K : Frag} {mg : PySem.Str → Option Value} {base : Heap}
theorem okDGb {x qual : PySem.Str} {st : Stmt} {f : Addr} {fd : FuncData} {N ps : List PySem.Str} {k : Nat} {sp : DSpG} (F : Fun K x qual st f fd) (Sc : GScope N ps (defScope st)) (ow : List Nat)
    (len : ∀ ds R E, sp ds R E → ds.length = ps.length)
    (body : ∃ t : EX → DGS, (∀ (cdv : Value) (A : Around) (outer : List Env) (s : Shared) (H : Hp) (E : XK) (pn : List (Addr × Obj)) (X0 : List Addr) (Ex : EX), Room k (A.deeper (envOfC qual (defScope st) s.heap.objs.size f cdv)) →
        Takes (gcxOf P w K mg base N qual (defScope st) f cdv A outer s H E pn) (WL ⟨K, none, X0, H, ow⟩ Ex) →
        GSs (gcxOf P w K mg base N qual (defScope st) f cdv A outer s H E pn) (defBody st) (LGn ⟨K, none, X0, H, ow⟩ (t Ex))) ∧
      ∀ X ds R E, sp ds R E → t (fun d _ => E d) { nx := fun es _ => R es } [] ⟨X, init false N.length ds, 0⟩) :
    GFn P w K mg base (k + 1) f fd ps (spDG K sp) := by
  obtain ⟨t, hbd, hr⟩ := body
  have lens : ∀ vs H Q E, spDG K sp vs H Q E → vs.length = ps.length := fun vs H Q E ⟨X0, ds, R, Ex, a, h2, _⟩ => by
    rw [a.args.len]
    exact len ds R Ex h2
  obtain ⟨oc, od, kV, doc, pm, an, cdv, ct, osl, rfl, lk, hcd⟩ := F.ex
  refine gfn_of lk hcd Sc lens fun A outer s H vs Q E pn room h => ?_
  have hl := lens _ _ _ _ h
  obtain ⟨X0, ds, R, Ex, a, h2, h3, h4⟩ := h
  have hpl : ps.length ≤ N.length := by have := congrArg List.length Sc.pre; rw [List.length_take] at this; omega
  have aft : ∀ {H' k}, Fin ⟨K, none, X0, H, ow⟩ H' k → Aft K none X0 H H' 0 := fun fi => ⟨fi.sub, fun b hb => fi.old b hb (a.xm b hb) (a.xs b hb), trivial, fi.tb⟩
  have hgs := hbd cdv A outer s H E pn X0 (fun d _ => Ex d) room (takes_gcx.imp fun cls dd σ H' ⟨s', d, rp, e, q⟩ => h4 d q cls dd H' (aft rp.fin) (e.mono rp.sub0))
  refine ⟨_, hgs, ⟨X0, init false N.length ds, 0⟩, [], { nx := fun es _ => R es }, init_rep (c := ⟨K, none, X0, H, ow⟩) rfl ⟨rfl, rfl⟩ a (by omega), .nil, hr X0 ds R Ex h2, ?_⟩
  exact ⟨fun s' σ' H' ys es r' e' q => h3 es q ys H' (aft r'.fin) (e'.mono r'.sub0), fun _ _ _ _ _ _ _ z => z.elim, fun _ _ _ _ _ _ _ z => z.elim⟩
end
end DL
set_option maxHeartbeats 1000000
namespace L2
open PySem PySem.Spec PyProof.Rows GenW
end L2
namespace DL
open PySem PySem.Spec PyProof.Rows L2
open PySem.W (Frag)
abbrev dListG0 (sp : DSpG) (t : DA) : DE := fun s Q => t s fun ds k => sp ds (fun es => Q (.lst es) k) (fun _ => False)
section
variable {X : Cx} {c : C} {k j : Nat} {x m : PySem.Str} {sp : DSp} {spg : DSpG} {p pos pf pos' apos : Pos} {Cl : Addr} {kws : List Keyword} {ks : List PySem.Str}
theorem passF : ∀ σ, PassesAt (L2.CX X.prog X.w) X σ (fun _ _ _ => False) := fun σ pins H s e s' I h => by
  obtain ⟨_, _, _, _, _, _, _, _, _, _, _, _, z⟩ := (show L2.CX X.prog X.w X.stack H s (fun _ _ _ => False) e s' from h)
  exact z.elim
theorem pd_listG0 (hK : c.K = X.K) (F : CalGen X.prog X.w X.K X.mg X.base k x spg) (hr : Room j X.A) (hk : k + 3 ≤ j) {e : Expr} {es : List Expr} {t : DA} (ha : PA X (e :: es) (LA c t)) (hmg : X.mg "list" = none) (hg : Gl X x := by rfl) (hgl : Gl X "list" := by rfl) (hdb : (x == ("__debug__" : PySem.Str)) = false := by decide)
    (he : starEach (e :: es) X.env = (false, eval e X.env) :: starEach es X.env := by rfl) (hpl : (backTo pos' (starEach es X.env)).any (·.1) = false := by rfl)
    (he2 : starEach [.Call (.Name x p) (e :: es) [] pos'] X.env = (false, eval (.Call (.Name x p) (e :: es) [] pos') X.env) :: starEach [] X.env := by rfl) :
    PE X (.Call (.Name "list" pf) [.Call (.Name x p) (e :: es) [] pos'] [] pos) (LE c (dListG0 spg t)) := by
  obtain ⟨f, fd, ps, G, hm, kp, b⟩ := F.ex
  refine (pe_listS (E := fun _ _ _ _ => False) (fun σ => pgen_call G (hr.mono (by omega)) hg hm kp b .nil ha hdb he hpl) passF (fun σ cls d H h => h.elim) (hr.mono hk) hgl hmg (by rfl) (he := he2)).weak fun σ H Q ⟨s, R, rp, q, fn⟩ => ⟨s, _, rp, q, fun ds k1 h1 vs H1 r1 a1 e1 => ?_⟩
  refine ⟨Ml c.M ++ s.X, ds, _, _, by rw [List.append_nil]; exact ⟨fun a _ => by simp [Ml], r1.allHid, trivial, hK ▸ e1, r1.allTb⟩, h1, fun es hR ys H' af er => ?_, fun d z => z.elim⟩
  have z := Rep.after (s := s.at k1) r1 ⟨af.sub, af.old, af.m, af.tb⟩
  exact fun q hq => Wi.lst (c := c) (s := s.at k1) (σ := σ) (R := fun d => d = .lst es) (fun d hd v H2 r' a' e' => by subst hd; exact fn _ k1 (hR) v H2 r' ((a1.trans z.2).trans a') e') z.1 rfl (hK ▸ er) q hq
end
end DL
set_option maxHeartbeats 1000000
namespace DL
open PySem L2
open PySem.W (Frag)
theorem Yl.rt {c : C} {s0 : S} {Hs : Hp} {K : Frag} {a : Addr} {vs : List V} {ds : List D} (hK : c.K = K) (h : SqT c.K (c.hid s0.X Hs) a vs) (r : RlA c.K (c.hid s0.X Hs) vs ds) : Yl c s0 Hs (RT.ItvT K a vs.length) ds.reverse := fun i s σ H rp ad => by
  subst hK
  have h1 : SqT c.K H a vs := (ad.trans (wo_sub _ _)).st h
  have r1 := r.mono ad
  refine ⟨fun hl => by show vs.length ≤ i; rw [r.len, ← List.length_reverse]; exact hl, fun d hd => ?_⟩
  have hi : i < ds.length := by
    obtain ⟨z, _⟩ := List.getElem?_eq_some_iff.mp hd
    rw [List.length_reverse] at z
    exact z
  rw [List.getElem?_reverse hi] at hd
  obtain ⟨v, hv, hr⟩ := r1.getD hd
  rw [← r.len] at hv
  refine ⟨⟨by rw [r.len]; exact hi, vs, v, h1, hv⟩, fun x H' ⟨e1, e2⟩ => ?_⟩
  subst e1
  have e3 := e2 vs h1
  rw [hv] at e3
  cases e3
  exact ⟨rp, AdvE.refl, hr⟩
abbrev iRvT (t : DE) : DI := fun s Q => t s fun d k => ∃ ds, d = .tup ds ∧ Q ds.reverse k
section
variable {X : Cx} {c : C} {tg : Expr}
theorem pid_rvT (hK : c.K = X.K) {l : Expr} {t : DE} {p pos : Pos} (hm : X.mg "reversed" = none) (h : PE X l (LE c t)) (hg : Gl X "reversed" := by rfl) (hs : starEach [l] X.env = (false, eval l X.env) :: starEach [] X.env := by rfl) : PI X tg (.Call (.Name "reversed" p) [l] [] pos) (LI c (iRvT t)) :=
  PI.weak (RT.pi_revA hg hm h hs) fun σ H R ⟨s, Z, rp, q, f⟩ => ⟨s, _, rp, q, fun d k ⟨ds, hd, hz⟩ v H1 r1 a1 e1 => by
    subst hd
    obtain ⟨a, vs, rfl, h1, r⟩ := e1.tupE
    exact ⟨a, vs, rfl, .inr ⟨hK ▸ (wo_sub _ _).st h1, f ds.reverse k hz _ H1 r1 a1 (Yl.rt hK h1 r)⟩⟩⟩
abbrev dTruN (i : Nat) : DT := fun s Q => ∃ ds, s.seq i = some ds ∧ Q (!ds.isEmpty) s.k
theorem pt_truN (hK : c.K = X.K) (i : Nat) {x : PySem.Str} {pn : Pos} (hN : X.N[i]? = some x := by rfl) (hv : Vis X.env.scope x := by first | exact Or.inl rfl | exact Or.inr (Or.inl rfl) | exact Or.inr (Or.inr rfl)) (hd : (x == ("__debug__" : PySem.Str)) = false := by decide) (hcd : (x == ("__classdict__" : PySem.Str)) = false := by decide)
    (he : ∀ whole, isTrue (Expr.Name x pn) X.env whole = (do let v ← whole; standAt (Expr.Name x pn).pos; holding [v] (truthy v)) := by intro _; rfl) : PT X (.Name x pn) (LT c (dTruN i)) :=
  (pt_truth (pe_var hN hv hd hcd) he).weak fun σ H Q ⟨s, R, rp, ⟨ds, h1, h2⟩, f⟩ => by
    obtain ⟨a, vs, e, h, r⟩ := rp.seq h1
    refine ⟨_, e, !ds.isEmpty, ?_, f _ _ h2 H rp AdvE.refl⟩
    rcases h with h | h
    · exact .inl ⟨vs, hK ▸ h, by rw [isEmpty_rl r]⟩
    · exact .inr (.inl ⟨vs, hK ▸ h, by rw [isEmpty_rl r]⟩)
end
end DL
set_option maxHeartbeats 1000000
namespace DL
open PySem L2
open PySem.W (Frag)
def DbE (p : Addr) (L : List (Addr × List Int)) (h : Heap) : Prop := ∃ o es ep, h.get? p = some o ∧ o.ExactDict ∧ o.data = .dict es ep ∧ (p == sysModules) = false ∧ es.toList = L.map (fun y => (⟨hashT y.2, .ref y.1, .bool true⟩ : DictEntry)) ∧ (L.map (·.2)).Nodup
def xsB (L : List (Addr × List Int)) : List (List Int × Addr × Value) := L.map fun y => (y.2, y.1, .bool true)
abbrev KsB (K : Frag) (H : Hp) (L : List (Addr × List Int)) : Prop := ∀ x ∈ L, SqT K H x.1 (x.2.map V.int)
theorem xsB_keys (L : List (Addr × List Int)) : (xsB L).map (·.1) = L.map (·.2) := by
  unfold xsB
  rw [List.map_map]; rfl
section
variable {X : Cx} {pins : List (Addr × Obj)} {σ : St} {H : Hp} {s : Shared} {p q : Addr} {L : List (Addr × List Int)} {r : List Int}
theorem dib_of (I : Inv X pins σ H s) (e : H p = some (.ext (DbE p L))) (hk : KsB X.K H L) : s.heap.DictOfH (tupleKind (intKind X.prog X.w)) p (xsB L) ∧ (p == sysModules) = false ∧ (L.map (·.2)).Nodup := by
  obtain ⟨⟨o, es, ep, h1, h2, h3, h4, h7, h8⟩, _, _⟩ := (show ObjOk X.prog X.w H s.heap p (.ext (DbE p L)) from I.hok p _ e)
  refine ⟨⟨o, es, ep, h1, h2, h3, ?_, fun x hx => ?_, ?_⟩, h4, h8⟩
  · rw [h7]
    unfold xsB
    rw [List.map_map]
    rfl
  · obtain ⟨y, hy, rfl⟩ := List.mem_map.mp hx
    exact Inv.isT I (hk y hy)
  · rw [xsB_keys]
    exact h8
theorem dbe_new {P : Program} {w : World} {h' : Heap} {L : List (Addr × List Int)} (hd : (p == sysModules) = false) (dd : h'.DictOfH (tupleKind (intKind P w)) p (xsB L)) (H' : Hp) : ObjOk P w H' h' p (.ext (DbE p L)) := by
  obtain ⟨o, es, ep, h1, h2, h3, h4, h5, h6⟩ := dd
  rw [xsB_keys] at h6
  refine ⟨⟨o, es, ep, h1, h2, h3, hd, ?_, h6⟩, ⟨o, h1⟩, fun g1 g2 ⟨o, es, ep, k1, k2, k3, k4, k5⟩ st => ⟨o, es, ep, st o k1, k2, k3, k4, k5⟩⟩
  rw [h4]
  unfold xsB
  rw [List.map_map]
  rfl
def addB (L : List (Addr × List Int)) (q : Addr) (r : List Int) : List (Addr × List Int) := if r ∈ L.map (·.2) then L else L ++ [(q, r)]
theorem storedB (nd : (L.map (·.2)).Nodup) : storedH (xsB L) r q (.bool true) = xsB (addB L q r) := by
  unfold addB
  by_cases z : r ∈ L.map (·.2)
  · rw [if_pos z]
    obtain ⟨i, hi⟩ := List.getElem?_of_mem z
    rw [List.getElem?_map] at hi
    obtain ⟨x, hx, rfl⟩ := Option.map_eq_some_iff.mp hi
    have e : atKey (xsB L) x.2 = some (x.1, .bool true) := atKey_of_get (i := i) (by rw [xsB_keys]; exact nd) (by unfold xsB; rw [List.getElem?_map, hx]; rfl)
    rw [storedH_old e]
    unfold xsB
    rw [List.map_map]
    refine List.map_congr_left fun y _ => ?_
    show putAt x.2 (.bool true) (y.2, y.1, .bool true) = (y.2, y.1, .bool true)
    unfold putAt
    split <;> rfl
  · rw [if_neg z, storedH_new]
    · unfold xsB
      rw [List.map_append]; rfl
    · refine atKey_none_of_get fun j y e => z ?_
      obtain ⟨w, hw, e2⟩ := List.mem_map.mp (List.mem_of_getElem? e)
      have : w.2 = r := congrArg Prod.fst e2
      rw [← this]
      exact List.mem_map.mpr ⟨w, hw, rfl⟩
def rSetB (K : Frag) : V → V → V → Hp → (Hp → Prop) → Prop := fun o i v H Q => ∃ p q L r, o = .ref p ∧ i = .ref q ∧ v = .bl true ∧ H p = some (.ext (DbE p L)) ∧ KsB K H L ∧ SqT K H q (r.map V.int) ∧ L.length ≤ 1000000 ∧ Q (upd H p (.ext (DbE p (addB L q r))))
theorem set_B (hu : X.A.units + 1 < cLine) : PSet X (rSetB X.K) := by
  intro pins s σ H o i v ov iv u Q I ro ri rv h
  obtain ⟨p, q, L, r, rfl, rfl, rfl, e, hk, hq, hz, h⟩ := h
  cases (show ov = Value.ref p from ro)
  cases (show iv = Value.ref q from ri)
  cases (show u = Value.bool true from rv)
  obtain ⟨dd, hd, nd⟩ := dib_of I e hk
  have lx : (xsB L).length = L.length := by unfold xsB; rw [List.length_map]
  refine wpAny_setItem_heap (tupleKind_room_in1 hu) (Inv.isT I hq) dd (fun h' dd' sb => ?_) (by rw [lx]; exact Nat.le_trans hz (by decide))
  rw [storedB nd] at dd'
  have he : ∃ ob, h'.get? p = some ob := let ⟨ob, _, _, ho, _⟩ := dd'; ⟨ob, ho⟩
  exact ⟨_, d_write I (by rw [e]; exact True.intro) sb he (dbe_new hd dd' _), h⟩
end
section
variable {X : Cx}
theorem cr_listB (hc : X.calm = true) : CallR X (.type "list") (fun vs H Q => ∃ (a : Addr) (L : List (Addr × List Int)), vs = [V.ref a] ∧ H a = some (.ext (DbE a L)) ∧ L.length ≤ 1000000 ∧ ∀ p, H p = none → Q (.ref p) (upd H p (.lst (L.map fun q => V.ref q.1)))) := by
  intro pins s σ H vs us Q I r h
  obtain ⟨a, L, rfl, ha, hz, q⟩ := h
  rw [Vals.ref1 r]
  obtain ⟨⟨o, es, ep, h1, h2, h3, h4, h7, h8⟩, _, _⟩ := (show ObjOk X.prog X.w H s.heap a (.ext (DbE a L)) from I.hok a _ ha)
  have hn : es.size = L.length := by rw [← Array.length_toList, h7, List.length_map]
  refine PySem.W.kdl_call (kdl_raw h4 h2 h3) (I.ok.hd hc) h1 (by rw [hn, sizeLine_eq]; omega) fun h' tk acc c kp hl it => ?_
  have ea : acc.toList = L.map fun q => Value.ref q.1 := by
    refine List.ext_getElem? fun j => ?_
    by_cases hj : j < es.size
    · have hja : j < acc.toList.length := by rw [Array.length_toList, it.1]; exact hj
      obtain ⟨en, e1, e2⟩ := it.2 j acc.toList[j] (by rw [← Array.getElem?_toList]; exact List.getElem?_eq_getElem hja)
      rw [List.getElem?_eq_getElem hja, e2]
      rw [← Array.getElem?_toList, h7, List.getElem?_map] at e1
      obtain ⟨y, hy, rfl⟩ := Option.map_eq_some_iff.mp e1
      rw [List.getElem?_map, hy]; rfl
    · rw [List.getElem?_eq_none (by rw [Array.length_toList, it.1]; omega), List.getElem?_eq_none (by rw [List.length_map]; omega)]
  have free := I.hok.fresh (Nat.le_refl s.heap.objs.size)
  refine ⟨.ref s.heap.objs.size, upd H s.heap.objs.size (.lst (L.map fun q => V.ref q.1)), I.laid (t' := tk) kp (Nat.le_refl _) (show ObjOk X.prog X.w _ _ _ (.lst _) from ⟨by rw [List.length_map, sizeLine_eq]; omega, acc.toList, c, by rw [ea]; exact vals_of_refs _, by rw [Array.toArray_toList]; exact hl⟩), rfl, q _ free⟩
end
end DL
set_option maxHeartbeats 1000000
namespace DL
open PySem L2
open PySem.W (KdlSrc)
section
variable {P : Program} {w : World} {A : Around} {E : Value → Shared → Prop} {s : Shared} {d : Addr} {n : Nat} {Pv : Nat → Value → Prop} {OK : Heap → Prop}
theorem collect_src {Q : List Value → Shared → Prop} (K : KdlSrc P w "dict" d d n Pv OK) (hh : A.handled = none) (hok : OK s.heap) (hn : n ≤ sizeLine)
    (hQ : ∀ s' acc, (∀ b o, s.heap.get? b = some o → s'.heap.get? b = some o) → s.heap.objs.size ≤ s'.heap.objs.size → s'.gens = s.gens → s'.os = s.os → ItemsOf Pv acc n → Q acc.toList s') :
    wpAny (model P w) A (collect (.ref d)) Q E s := by
  have hlt := (K.there _ hok).1
  have hSd : s.heap.objs.size ≠ d := Nat.ne_of_gt hlt
  unfold collect
  refine wpAny_bind (wpAny_runValue (codeAny_builtin F.entry_proto_collect ?_))
  rw [Around.under_plainId F.plain_proto_collect _]
  show wpAny _ A.in1 (newList [] >>= fun l => again (.builtin "list.__iadd__" ⟨[l, .ref d], []⟩)) _ _ s
  refine wpAny_bind (wpAny_newObj_type ?_)
  refine wpAny_pure ⟨plainId_quiet F.plain_list_iadd _, codeAny_builtin F.entry_list_iadd ?_⟩
  rw [Around.under_plainId F.plain_list_iadd _]
  have hS : (s.heap.push { cls := .type "list", data := .seq ([] : List Value).toArray }).get? s.heap.objs.size = some { cls := .type "list", data := .seq ([] : List Value).toArray } := Heap.get?_push_size _ rfl
  show wpAny _ A.in1 (Builtin.List.listExtendWith (.ref s.heap.objs.size) (.ref d) (.ref s.heap.objs.size)) _ _ _
  let R : Result → Shared → Prop := fun r s' => ∃ h' tk acc c, s' = { s with heap := h', toks := tk } ∧ r = .ok (.ret (.ref s.heap.objs.size)) ∧ (∀ b o, b ≠ s.heap.objs.size → (s.heap.push { cls := .type "list", data := .seq ([] : List Value).toArray }).get? b = some o → h'.get? b = some o) ∧
    h'.get? s.heap.objs.size = some { cls := .type "list", dict := none, data := .seq acc c, slots := #[] } ∧ ItemsOf Pv acc n
  have fin : ∀ r s', R r s' → (match r with
      | .ok (.ret v) => wpAny (model P w) A (match v with
        | .ref a => do
          let o ← load a
          match o.data with
            | .seq xs _ => pure xs.toList
            | _ => unsupported "internal:collect"
        | _ => unsupported "internal:collect") Q E s'
      | .ok _ => False
      | .error e => E e s') := by
    rintro r s' ⟨h', tk, acc, c, rfl, rfl, hk, hS', hacc⟩
    show wpAny (model P w) A (load s.heap.objs.size >>= _) _ _ _
    refine wpAny_bind (wpAny_load hS' ?_)
    refine wpAny_pure ?_
    show Q acc.toList _
    refine hQ _ acc (fun b u e => ?_) (Nat.le_of_lt (Heap.lt_size hS')) rfl rfl hacc
    exact hk b u (Nat.ne_of_lt (Heap.lt_size e)) (Heap.get?_push_of_some _ e)
  refine wpAny_mono (PySem.W.kdl_extend (s := { s with heap := s.heap.push { cls := .type "list", data := .seq ([] : List Value).toArray } }) (R := R) K hh (K.keep _ _ hok fun b _ o e => Heap.get?_push_of_some _ e) s.heap.objs.size hSd hSd (.ref s.heap.objs.size) _ hS (fun h' tk acc c hk hS' hacc => ⟨h', tk, acc, c, rfl, rfl, hk, hS', hacc⟩) hn) (fun f s' h => ?_) (fun e s' h => fin _ s' h)
  cases f with
  | done f => exact fin _ s' h
  | again c' => exact ⟨h.1, codeAny_mono h.2 fun r s' h => fin r s' h⟩
end
end DL
set_option maxHeartbeats 1000000
namespace DL
open PySem PySem.Spec PyProof.Rows L2
open PySem.W (Frag dataLe AllAlike Sortable EachIs alike alikeAll KdlSrc)
theorem keys_are {P : Program} {w : World} {a : Addr} {L : List (Addr × List Int)} {es : Array DictEntry} {acc : Array Value} (h7 : es.toList = L.map (fun y => (⟨hashT y.2, .ref y.1, .bool true⟩ : DictEntry)))
    (it : ItemsOf (fun i v => ∃ en : DictEntry, es[i]? = some en ∧ v = en.key) acc es.size) : acc.toList = L.map fun q => Value.ref q.1 := by
  refine List.ext_getElem? fun j => ?_
  have hn : es.size = L.length := by rw [← Array.length_toList, h7, List.length_map]
  by_cases hj : j < es.size
  · have hja : j < acc.toList.length := by rw [Array.length_toList, it.1]; exact hj
    obtain ⟨en, e1, e2⟩ := it.2 j acc.toList[j] (by rw [← Array.getElem?_toList]; exact List.getElem?_eq_getElem hja)
    rw [List.getElem?_eq_getElem hja, e2]
    rw [← Array.getElem?_toList, h7, List.getElem?_map] at e1
    obtain ⟨y, hy, rfl⟩ := Option.map_eq_some_iff.mp e1
    rw [List.getElem?_map, hy]; rfl
  · rw [List.getElem?_eq_none (by rw [Array.length_toList, it.1]; omega), List.getElem?_eq_none (by rw [List.length_map]; omega)]
section
variable {P : Program} {w : World} {A : Around} {E : Value → Shared → Prop} {s : Shared}
theorem sorted_dictB {a : Addr} {L : List (Addr × List Int)} {o : Obj} {es : Array DictEntry} {ep : Nat} {Q : Value → Shared → Prop} (ho : s.heap.get? a = some o) (hx : o.ExactDict) (hd : o.data = .dict es ep) (lo : (a == sysModules) = false)
    (h7 : es.toList = L.map (fun y => (⟨hashT y.2, .ref y.1, .bool true⟩ : DictEntry))) (hk : ∀ p ∈ L, IsT P w s.heap p.2 p.1) (hh : A.handled = none) (hu : A.units + 64 < cLine) (hne : ∀ p ∈ L, p.2 ≠ []) (hl : L.length ≤ 1000000)
    (hQ : ∀ s' p (c : Nat), (∀ b o, s.heap.get? b = some o → s'.heap.get? b = some o) → s'.gens = s.gens → s'.os = s.os → s.heap.objs.size ≤ p →
      s'.heap.get? p = some (seqObj "list" ((L.mergeSort leP).map fun q => Value.ref q.1).toArray c) → Q (.ref p) s') :
    wpAny (model P w) A (call (.builtin "sorted") [.ref a]) Q E s := by
  have hn : es.size = L.length := by rw [← Array.length_toList, h7, List.length_map]
  refine Calls.call_function_entry kind_sorted plain_sorted entry_sorted (args_sorted1 _) ?_
  unfold Builtin.«sorted»
  refine wpAny_bind (m := checkCount "sorted" 1 1 _) (wpAny_pure ?_)
  refine wpAny_bind (collect_src (A := A.in1) (kdl_raw lo hx hd) hh ho (by rw [hn, sizeLine_eq]; omega) fun s1 acc k1 hz g1 o1 it => ?_)
  rw [keys_are (P := P) (w := w) (a := a) h7 it]
  refine wpAny_bind (wpAny_newList ?_ (by rw [List.length_map, sizeLine_eq]; omega))
  have hoL : (s1.heap.push (seqObj "list" (L.map fun q => Value.ref q.1).toArray 0)).get? s1.heap.objs.size = some (seqObj "list" (L.map fun q => Value.ref q.1).toArray 0) := Heap.get?_push_size _ rfl
  have rd : EachIs (fun v (b : Addr × List Int) => ∃ as, Reads (s1.heap.push (seqObj "list" (L.map fun q => Value.ref q.1).toArray 0)) v (pyI b.2) as ∧ s1.heap.objs.size ∉ as) (L.map fun q => Value.ref q.1) L := by
    have go : ∀ M : List (Addr × List Int), (∀ q ∈ M, q ∈ L) → EachIs (fun v (b : Addr × List Int) => ∃ as, Reads (s1.heap.push (seqObj "list" (L.map fun q => Value.ref q.1).toArray 0)) v (pyI b.2) as ∧ s1.heap.objs.size ∉ as) (M.map fun q => Value.ref q.1) M := by
      intro M
      induction M with
      | nil => intro _; exact .nil
      | cons q M ih => 
        intro hm
        refine .cons ⟨[], reads_isT (P := P) (w := w) (isT_keep (hk q (hm q List.mem_cons_self)) fun b u e => Heap.get?_push_of_some _ (k1 b u e)), by simp⟩ (ih fun r hr => hm r (List.mem_cons_of_mem _ hr))
    exact go L fun q hq => hq
  refine wpAny_bind (wpAny_holding (PySem.W.list_sort_data (s := { s1 with heap := s1.heap.push (seqObj "list" (L.map fun q => Value.ref q.1).toArray 0) }) (enc := fun q : Addr × List Int => pyI q.2) hoL (refs_each L) rd (AllAlike.of fun b b' => alike_pyI b.2 b'.2) ?_ (by rw [sizeLine_eq]; omega) (fun b hb => ?_) fun out lo eo => ?_))
  · refine .inl fun d hd => ?_
    obtain ⟨q, hq, rfl⟩ := List.mem_map.mp hd
    have := hne q hq
    cases e : q.2 with
    | nil => exact absurd e this
    | cons x r => exact ⟨.int x, r.map .int, rfl⟩
  · have : (pyI b.2).depth ≤ 1 := by
      show PyData.depthAll (b.2.map .int) + 1 ≤ 1
      rw [PySem.W.depth_ints]
      exact Nat.le_refl _
    show A.units + 1 + 1 + (pyI b.2).depth < cLine
    omega
  · have eo' := each_refs eo
    subst eo'
    obtain ⟨c, hc⟩ := sortedHeap_at (vs := L.map fun q => Value.ref q.1) (out := ((L.mergeSort leP).map fun q => Value.ref q.1).toArray) hoL
    refine wpAny_pure ⟨_, rfl, hQ _ s1.heap.objs.size c (fun b u e => ?_) g1 o1 hz hc⟩
    have q := k1 b u e
    have hlt := Heap.lt_size q
    show (sortedHeap (s1.heap.push (seqObj "list" (L.map fun q => Value.ref q.1).toArray 0)) s1.heap.objs.size _ _).get? b = some u
    rw [sortedHeap_old (Nat.ne_of_lt hlt) (by rw [size_push']; exact Nat.lt_succ_of_lt hlt)]
    exact Heap.get?_push_of_some _ q
end
section
variable {X : Cx}
theorem cr_sortedDB (hc : X.calm = true) (hu : X.A.units + 64 < cLine) : CallR X (.builtin "sorted") (fun vs H Q => ∃ (a : Addr) (L : List (Addr × List Int)), vs = [V.ref a] ∧ H a = some (.ext (DbE a L)) ∧ KsB X.K H L ∧ (∀ p ∈ L, p.2 ≠ []) ∧ L.length ≤ 1000000 ∧
    ∀ p, H p = none → Q (.ref p) (upd H p (.lst ((L.mergeSort leP).map fun q => V.ref q.1)))) := by
  intro pins s σ H vs us Q I r h
  obtain ⟨a, L, rfl, ha, hk, hne, hz, q⟩ := h
  obtain ⟨⟨o, es, ep, h1, h2, h3, h4, h7, h8⟩, _, _⟩ := (show ObjOk X.prog X.w H s.heap a (.ext (DbE a L)) from I.hok a _ ha)
  rw [Vals.ref1 r]
  refine sorted_dictB (P := X.prog) (w := X.w) h1 h2 h3 h4 h7 (fun p hp => I.isT (hk p hp)) (I.ok.hd hc) hu hne hz fun s' p c k g o hp hg => ?_
  have hl : (L.mergeSort leP).length = L.length := List.length_mergeSort _
  have hn : H p = none := I.hok.fresh hp
  have hob : ObjOk X.prog X.w (upd H p (.lst ((L.mergeSort leP).map fun q => V.ref q.1))) s'.heap p (.lst ((L.mergeSort leP).map fun q => V.ref q.1)) :=
    ⟨by rw [List.length_map, sizeLine_eq]; omega, _, c, vals_of_refs _, hg⟩
  have J : Inv X pins σ (upd H p (.lst ((L.mergeSort leP).map fun q => V.ref q.1))) { s with heap := s'.heap, gens := s'.gens, drawn := s'.drawn, toks := s'.toks } :=
    I.call (ch := []) (Un.laid k hp hn) (I.hok.laid k hp hob) (by rw [g]; exact I.bare) (fun _ z => nomatch z)
  have e : s' = { s with heap := s'.heap, gens := s'.gens, drawn := s'.drawn, toks := s'.toks } := by
    cases s'
    cases s
    cases o
    rfl
  rw [e]
  exact ⟨.ref p, _, J, rfl, q p hn⟩
end
end DL
set_option maxHeartbeats 1000000
namespace DL
open PySem PySem.Spec PyProof.Rows L2
open PySem.W (Frag)
def tDisR (K : Frag) (tk : TE) : TE := fun σ H Q => ∀ p, H p = none → tk σ (upd H p (.ext (DbE p []))) fun x H2 => ∃ q r, x = .ref q ∧ H2 p = some (.ext (DbE p [])) ∧ SqT K H2 q (r.map V.int) ∧ Q (.ref p) (upd H2 p (.ext (DbE p [(q, r)])))
section
variable {X : Cx} {pos p1 : Pos} {j : Nat}
theorem dbe_empty (h : Heap) (hb : sysModules < h.objs.size) (P : Program) (w : World) (H : Hp) : ObjOk P w H (h.push { cls := .type "dict", data := .dict #[] }) h.objs.size (.ext (DbE h.objs.size [])) :=
  dbe_new (L := []) (beq_eq_false_iff_ne.mpr (Ne.symm (Nat.ne_of_lt hb))) ⟨_, #[], 0, Heap.get?_push_size _ rfl, ⟨rfl, rfl, rfl⟩, rfl, rfl, fun x hx => (nomatch hx), List.nodup_nil⟩ _
theorem vv1 {x y : V} {ws : List (Value × Value)} (h : VV [(x, y)] ws) : ∃ u1 u2, ws = [(u1, u2)] ∧ RelV x u1 ∧ RelV y u2 := by
  cases h with
  | cons a b =>
    cases b
    exact ⟨_, _, rfl, a.1, a.2⟩
theorem pe_disR (hu : X.A.units + 1 < cLine) {k : Expr} {tk : TE} (hk : PE X k tk) : PE X (.Dict [some k] [.Constant (.bool true) j p1] pos) (tDisR X.K tk) := by
  refine ⟨fun pins s σ H Q I q => ?_⟩
  have hn := I.hok.fresh (Nat.le_refl s.heap.objs.size)
  have I1 := I.laid (a := s.heap.objs.size) (o := .ext (DbE s.heap.objs.size [])) (h' := s.heap.push { cls := .type "dict", data := .dict #[] }) (t' := s.toks) (fun _ _ q => Heap.get?_push_of_some _ q) (Nat.le_refl _) (dbe_empty s.heap I.big X.prog X.w _)
  have hp : PPs X pos [some k] [.Constant (.bool true) j p1] [(tk, tC (.bl true))] := pps_cons hk pe_bl pps_nil
  rw [arm_eval_Dict, zip_pairTrees [some k] [.Constant (.bool true) j p1] X.env pos rfl rfl, dictDisplay_pairs _ (fun z => by have := congrArg List.length z; rw [pairTrees_length _ _ _ _ rfl rfl] at this; cases this) (by rw [pairTrees_length _ _ _ _ rfl rfl]; show 1 < 17; decide)]
  refine wpAny_bind (wpAny_standAt (wpAny_bind (wpAny_subDictH (knd := tupleKind (intKind X.prog X.w)) (Q := fun d s' => wpAny (model X.prog X.w) X.A (pure (Value.ref d)) (EP X pins σ Q) X.xe s') (Nat.lt_of_succ_lt hu) (by rw [pairTrees_length _ _ _ _ rfl rfl]; show 1 ≤ 15; decide) ?_)))
  refine thn (hp.run pins _ σ _ (fun ps H2 => match ps with
    | [(x, .bl true)] => ∃ qa r, x = .ref qa ∧ H2 s.heap.objs.size = some (.ext (DbE s.heap.objs.size [])) ∧ SqT X.K H2 qa (r.map V.int) ∧ Q (.ref s.heap.objs.size) (upd H2 s.heap.objs.size (.ext (DbE s.heap.objs.size [(qa, r)])))
    | _ => False) I1 (q _ hn)) fun ws s2 ⟨ps, H2, I2, rel, q2⟩ => ?_
  match ps, rel, q2 with
  | [(x, .bl true)], rel, q2 =>
    obtain ⟨qa, r, rfl, e, hq, q3⟩ := q2
    obtain ⟨dd, hd, nd⟩ := dib_of I2 e (fun x hx => nomatch hx)
    obtain ⟨u1, u2, rfl, k1, k2⟩ := vv1 rel
    cases (show u1 = Value.ref qa from k1)
    cases (show u2 = Value.bool true from k2)
    refine ⟨[(r, qa, .bool true)], ⟨rfl, rfl, Inv.isT I2 hq, trivial⟩, dd, fun h' tk dd' sb => wpAny_pure ?_⟩
    have he : ∃ ob, h'.get? s.heap.objs.size = some ob := let ⟨ob, _, _, ho, _⟩ := dd'; ⟨ob, ho⟩
    exact ⟨.ref s.heap.objs.size, _, d_write I2 (by rw [e]; exact True.intro) sb he (dbe_new (L := [(qa, r)]) hd dd' _), rfl, q3⟩
end
end DL
set_option maxHeartbeats 1000000
namespace DL
open PySem L2
open PySem.W (Frag)
structure DcAt (c : C) (i : Nat) (p : Addr) (L : List (Addr × List Int)) (s : S) (σ : L2.St) (H : Hp) : Prop where
  slot : s.sl[i]? = some .no
  at_ : σ[i]? = some (some (.ref p))
  mem : p ∈ s.X
  out : p ∉ c.X0
  pl : s.sl.all Sl.plain = true
  obj : H p = some (.ext (DbE p L))
  keys : ∀ x ∈ L, SqT c.K (c.hid s.X H) x.1 (x.2.map V.int)
theorem plain_no {sl : List Sl} (h : sl.all Sl.plain = true) (j : Nat) (p : Addr) (ds : List D) : sl[j]? ≠ some (.own p ds) := fun e => by
  have := List.all_eq_true.mp h _ (List.mem_of_getElem? e)
  cases this
structure DdE where
  nx : S → List (List Int) → Prop
  rt : D → Nat → Prop
  bk : S → List (List Int) → Prop := fun _ _ => False
  ct : S → List (List Int) → Prop := fun _ _ => False
abbrev DdS := DdE → S → List (List Int) → Prop
structure FitsD (c : C) (i : Nat) (p : Addr) (X : List Addr) (H : Hp) (DD : DdE) (D : Ends) : Prop where
  nx : ∀ s' σ' H' L', Rep c s' σ' H' → Adv' c X H s'.X H' → DcAt c i p L' s' σ' H' → DD.nx s' (L'.map (·.2)) → D.nx σ' H'
  bk : ∀ s' σ' H' L', Rep c s' σ' H' → Adv' c X H s'.X H' → DcAt c i p L' s' σ' H' → DD.bk s' (L'.map (·.2)) → D.bk σ' H'
  ct : ∀ s' σ' H' L', Rep c s' σ' H' → Adv' c X H s'.X H' → DcAt c i p L' s' σ' H' → DD.ct s' (L'.map (·.2)) → D.ct σ' H'
  rt : ∀ d k v H', Fin c H' k → Rl c.K (c.hid c.X0 H') v d → DD.rt d k → D.rt v H'
def LDd (c : C) (i : Nat) (t : DdS) : TS := fun D σ H => ∃ p L s DD, Rep c s σ H ∧ DcAt c i p L s σ H ∧ t DD s (L.map (·.2)) ∧ FitsD c i p s.X H DD D
theorem DcAt.on {c : C} {i : Nat} {p : Addr} {L : List (Addr × List Int)} {s : S} {σ : L2.St} {H H1 : Hp} {k : Nat} (a : DcAt c i p L s σ H) (e : AdvE c s.X H H1) : DcAt c i p L (s.at k) σ H1 :=
  ⟨a.slot, a.at_, a.mem, a.out, a.pl, by rw [e.own p a.mem]; exact a.obj, fun x hx => e.sub.st (a.keys x hx)⟩
theorem FitsD.on {c : C} {i : Nat} {p : Addr} {X X1 : List Addr} {H H1 : Hp} {DD : DdE} {D : Ends} (f : FitsD c i p X H DD D) (a : Adv' c X H X1 H1) : FitsD c i p X1 H1 DD D :=
  ⟨fun s σ H' L' r b z q => f.nx s σ H' L' r (a.trans b) z q, fun s σ H' L' r b z q => f.bk s σ H' L' r (a.trans b) z q, fun s σ H' L' r b z q => f.ct s σ H' L' r (a.trans b) z q, f.rt⟩
abbrev dcS (i : Nat) (s : S) : Prop := s.sl[i]? = some .no ∧ s.sl.all Sl.plain = true
abbrev ddSeq (t u : DdS) : DdS := fun DD s ks => t { DD with nx := u DD } s ks
abbrev ddFor (i : Nat) (it : DI) (g : DG) (body : DdS) : DdS := fun DD s ks => it s fun items k0 => ∃ Inv : Nat → S → List (List Int) → Prop, Inv 0 (s.at k0) ks ∧
  (∀ n d s' ks', items[n]? = some d → Inv n s' ks' → g d s' fun s2 => dcS i s2 ∧ body { nx := Inv (n + 1), rt := DD.rt, ct := Inv (n + 1), bk := DD.nx } s2 ks') ∧ ∀ s' ks', Inv items.length s' ks' → DD.nx s' ks'
abbrev ddForK (i : Nat) (g : DG) (body : DdS) : DdS := fun DD s ks => ks.length ≤ 1000000 ∧ ∃ Inv : Nat → S → List (List Int) → Prop, Inv 0 s ks ∧
  (∀ n r s' ks', ks[n]? = some r → Inv n s' ks' → g (tuI r) s' fun s2 => dcS i s2 ∧ body { nx := Inv (n + 1), rt := DD.rt, ct := Inv (n + 1), bk := DD.nx } s2 ks') ∧ ∀ s' ks', Inv ks.length s' ks' → DD.nx s' ks'
abbrev ddPut (t : DE) : DdS := fun DD s ks => t s fun d k => ∃ r, d = tuI r ∧ ks.length ≤ 1000000 ∧ DD.nx (s.at k) (if r ∈ ks then ks else ks ++ [r])
abbrev ddRetS : DdS := fun DD s ks => (∀ r ∈ ks, r ≠ []) ∧ ks.length ≤ 1000000 ∧ DD.rt (.lst ((ks.mergeSort leI).map tuI)) s.k
section
variable {X : Cx} {c : C} {i : Nat} {pos : Pos}
theorem pss_dd1 {st : Stmt} {t : DdS} (h : PS X st (LDd c i t)) : PSs X [st] (LDd c i t) := pss_one h
theorem pss_ddc {st : Stmt} {r : List Stmt} {t u : DdS} (h1 : PS X st (LDd c i t)) (h2 : PSs X r (LDd c i u)) : PSs X (st :: r) (LDd c i (ddSeq t u)) :=
  (pss_cons h1 h2).weak fun D σ H ⟨p, L, s, DD, rp, a, q, f⟩ => ⟨p, L, s, { DD with nx := u DD }, rp, a, q, ⟨fun s' σ' H' L' r' b z q' => ⟨p, L', s', DD, r', z, q', f.on b⟩, f.bk, f.ct, f.rt⟩⟩
theorem ps_ddfor {tg iter : Expr} {body : List Stmt} {it : DI} {g : DG} {tb : DdS} {ts : List Nat} (hp : PassesOwn (model X.prog X.w) X.A X.env X.xe) (hc : X.calm = true) (hi : PI X tg iter (LI c it)) (hg : PG X tg (LG c ts g)) (hts : i ∉ ts) (hb : PSs X body (LDd c i tb))
    (hs : ∀ x, foldedSetIterable iter X.env x = pure x := by intro _; rfl) : PS X (.For tg iter body [] pos) (LDd c i (ddFor i it g tb)) :=
  (ps_for hp hc hi hg hb hs).weak fun D σ H ⟨p, L, s, DD, rp, dc, q, f⟩ => by
    refine ⟨s, _, rp, q, fun items k0 ⟨IV, i0, turn, fin⟩ J H1 r1 a1 yl => ?_⟩
    refine ⟨fun n m σ' H' => m = items.length - n ∧ n ≤ items.length ∧ ∃ s' L', IV n s' (L'.map (·.2)) ∧ Rep c s' σ' H' ∧ DcAt c i p L' s' σ' H' ∧ Adv' c s.X H1 s'.X H', ⟨items.length, by simp, Nat.zero_le _, s.at k0, L, i0, r1, dc.on a1, Sub.refl _⟩, ?_⟩
    rintro n m σ' H' ⟨rfl, hn', s', L', hI, rp', dc', ad⟩
    obtain ⟨yl1, yl2⟩ := yl n s' σ' H' rp' ad
    by_cases hlt : n < items.length
    · obtain ⟨d, hd⟩ : ∃ d, items[n]? = some d := ⟨items[n], by simp [hlt]⟩
      obtain ⟨go, yd⟩ := yl2 d hd
      refine .inr ⟨go, fun σ2 H2 => ∃ s' L', IV (n + 1) s' (L'.map (·.2)) ∧ Rep c s' σ2 H2 ∧ DcAt c i p L' s' σ2 H2 ∧ Adv' c s.X H1 s'.X H2, fun σ2 H2 ⟨s2, L2, h⟩ => ⟨items.length - (n + 1), by omega, rfl, hlt, s2, L2, h⟩, fun x H2 hy => ?_⟩
      obtain ⟨r2, a2, e2⟩ := yd x H2 hy
      refine ⟨s', _, d, r2, e2, turn n d s' _ hd hI, fun s3 ⟨⟨o1, o2⟩, h3⟩ σ3 H3 r3 a3 x3 sm _ => ?_⟩
      have ad3 : Adv' c s.X H1 s3.X H3 := (ad.trans a2.sub).trans (x3 ▸ a3.sub)
      have dc3 : DcAt c i p L' s3 σ3 H3 := ⟨o1, by rw [sm i hts]; exact dc'.at_, by rw [x3]; exact dc'.mem, dc'.out, o2, by rw [a3.own p dc'.mem, a2.own p dc'.mem]; exact dc'.obj, fun y hy => by rw [x3]; exact a3.sub.st (a2.sub.st (dc'.keys y hy))⟩
      exact ⟨p, L', s3, _, r3, dc3, h3, ⟨fun s4 σ4 H4 L4 r4 a4 z4 h4 => ⟨s4, L4, h4, r4, z4, ad3.trans a4⟩, fun s4 σ4 H4 L4 r4 a4 z4 h4 => f.nx s4 σ4 H4 L4 r4 (a1.sub.trans (ad3.trans a4)) z4 h4, fun s4 σ4 H4 L4 r4 a4 z4 h4 => ⟨s4, L4, h4, r4, z4, ad3.trans a4⟩, f.rt⟩⟩
    · have e : n = items.length := by omega
      subst e
      exact .inl ⟨yl1 (Nat.le_refl _), f.nx s' σ' H' L' rp' (a1.sub.trans ad) dc' (fin s' _ hI)⟩
theorem ps_ddforK (hK : c.K = X.K) {tg : Expr} {y : PySem.Str} {pn pl p2 : Pos} {body : List Stmt} {g : DG} {tb : DdS} {ts : List Nat} (hp : PassesOwn (model X.prog X.w) X.A X.env X.xe) (hc : X.calm = true) (hm : X.mg "list" = none) (hg : PG X tg (LG c ts g)) (hts : i ∉ ts) (hb : PSs X body (LDd c i tb))
    (hN : X.N[i]? = some y := by rfl) (hv : Vis X.env.scope y := by first | exact Or.inl rfl | exact Or.inr (Or.inl rfl) | exact Or.inr (Or.inr rfl)) (hd : (y == ("__debug__" : PySem.Str)) = false := by decide) (hcd : (y == ("__classdict__" : PySem.Str)) = false := by decide) (hgl : Gl X "list" := by rfl)
    (hst : starEach [Expr.Name y pn] X.env = (false, eval (Expr.Name y pn) X.env) :: starEach [] X.env := by rfl) (hpl : (backTo p2 (starEach [] X.env)).any (·.1) = false := by rfl)
    (hs : ∀ x, foldedSetIterable (.Call (.Name "list" pl) [.Name y pn] [] p2) X.env x = pure x := by intro _; rfl) : PS X (.For tg (.Call (.Name "list" pl) [.Name y pn] [] p2) body [] pos) (LDd c i (ddForK i g tb)) :=
  (ps_for hp hc (pi_list (pe_callTy (cr_listB hc) hgl hm (by rfl) (pa_cons (pe_var hN hv hd hcd) pa_nil hst) (he := hst) (hpl := hpl))) hg hb hs).weak fun D σ H ⟨p, L, s, DD, rp, dc, ⟨hz, IV, i0, turn, fin⟩, f⟩ => by
    rw [List.length_map] at hz
    refine ⟨_, dc.at_, p, L, rfl, dc.obj, hz, fun q hq => ⟨q, rfl, ⟨_, SqL.of upd_same⟩, ?_⟩⟩
    have n2 := rp.new (o := .lst (L.map fun x => V.ref x.1)) hq
    have r1 := n2.1
    have a1 := n2.2
    have dc1 : DcAt c i p L s σ (upd H q (.lst (L.map fun x => V.ref x.1))) := dc.on (k := s.k) a1
    have rl : RlA c.K (c.hid s.X (upd H q (.lst (L.map fun x => V.ref x.1)))) (L.map fun x => V.ref x.1) (L.map fun x => tuI x.2) := RlA.ofTups fun z hz => dc1.keys z hz
    have yl := Yl.list (s0 := s) hK (rp.at_new (o := .lst (L.map fun x => V.ref x.1)) hq) rl
    clear rl n2
    generalize upd H q (.lst (L.map fun x => V.ref x.1)) = H1 at r1 a1 dc1 yl ⊢
    have le : (L.map fun x => tuI x.2).length = (L.map (·.2)).length := by rw [List.length_map, List.length_map]
    refine ⟨fun n m σ' H' => m = (L.map (·.2)).length - n ∧ n ≤ (L.map (·.2)).length ∧ ∃ s' L', IV n s' (L'.map (·.2)) ∧ Rep c s' σ' H' ∧ DcAt c i p L' s' σ' H' ∧ Adv' c s.X H1 s'.X H', ⟨_, rfl, Nat.zero_le _, s, L, i0, r1, dc1, Sub.refl _⟩, ?_⟩
    rintro n m σ' H' ⟨rfl, hn', s', L', hI, rp', dc', ad⟩
    obtain ⟨yl1, yl2⟩ := yl n s' σ' H' rp' ad
    by_cases hlt : n < (L.map (·.2)).length
    · have hl2 : n < L.length := by rw [List.length_map] at hlt; exact hlt
      obtain ⟨go, yd⟩ := yl2 (tuI L[n].2) (by rw [List.getElem?_map, List.getElem?_eq_getElem hl2]; rfl)
      refine .inr ⟨go, fun σ2 H2 => ∃ s' L', IV (n + 1) s' (L'.map (·.2)) ∧ Rep c s' σ2 H2 ∧ DcAt c i p L' s' σ2 H2 ∧ Adv' c s.X H1 s'.X H2, fun σ2 H2 ⟨s2, L2, h⟩ => ⟨_, by omega, rfl, hlt, s2, L2, h⟩, fun x H2 hy => ?_⟩
      obtain ⟨r2, a2, e2⟩ := yd x H2 hy
      refine ⟨s', _, _, r2, e2, turn n L[n].2 s' _ (by rw [List.getElem?_map, List.getElem?_eq_getElem hl2]; rfl) hI, fun s3 ⟨⟨o1, o2⟩, h3⟩ σ3 H3 r3 a3 x3 sm _ => ?_⟩
      have ad3 : Adv' c s.X H1 s3.X H3 := (ad.trans a2.sub).trans (x3 ▸ a3.sub)
      have dc3 : DcAt c i p L' s3 σ3 H3 := ⟨o1, by rw [sm i hts]; exact dc'.at_, by rw [x3]; exact dc'.mem, dc'.out, o2, by rw [a3.own p dc'.mem, a2.own p dc'.mem]; exact dc'.obj, fun y hy => by rw [x3]; exact a3.sub.st (a2.sub.st (dc'.keys y hy))⟩
      exact ⟨p, L', s3, _, r3, dc3, h3, ⟨fun s4 σ4 H4 L4 r4 a4 z4 h4 => ⟨s4, L4, h4, r4, z4, ad3.trans a4⟩, fun s4 σ4 H4 L4 r4 a4 z4 h4 => f.nx s4 σ4 H4 L4 r4 (a1.sub.trans (ad3.trans a4)) z4 h4, fun s4 σ4 H4 L4 r4 a4 z4 h4 => ⟨s4, L4, h4, r4, z4, ad3.trans a4⟩, f.rt⟩⟩
    · have e : n = (L.map (·.2)).length := by omega
      subst e
      exact .inl ⟨yl1 (by rw [le]; exact Nat.le_refl _), f.nx s' σ' H' L' rp' (a1.sub.trans ad) dc' (fin s' _ hI)⟩
theorem dbe_code {p : Addr} {L : List (Addr × List Int)} {q : PySem.Str} : HO.ext (DbE p L) ≠ LamX.CodeO p q := fun z => by
  unfold LamX.CodeO at z
  have e := HO.ext.inj z
  obtain ⟨h, hh⟩ := heap_at p { cls := .none, data := .fields #[.none, .str q default] } rfl
  have e2 := congrFun e h
  have : DbE p L h := by
    rw [e2]
    exact ⟨_, _, default, hh, rfl, rfl⟩
  obtain ⟨o, es, ep, h1, h2, h3, _⟩ := this
  rw [hh] at h1
  cases h1
  cases h3
theorem dbe_tb {p : Addr} {L L' : List (Addr × List Int)} {H : Hp} (h : H p = some (.ext (DbE p L))) : TbK H (upd H p (.ext (DbE p L'))) := .at_ h (by intro _ z; cases z) (fun q => dbe_code) (by intro _ z; cases z) (by intro _ _ z; cases z)
theorem map_addB (L : List (Addr × List Int)) (q : Addr) (r : List Int) : (addB L q r).map (·.2) = if r ∈ L.map (·.2) then L.map (·.2) else L.map (·.2) ++ [r] := by
  unfold addB
  split
  · rfl
  · rw [List.map_append]; rfl
theorem ps_ddput {j : Nat} (hr : Room j X.A) (hK : c.K = X.K) {y : PySem.Str} {pn p1 p2 : Pos} {jc : Nat} {e : Expr} {t : DE} (he : PE X e (LE c t)) (hN : X.N[i]? = some y := by rfl) (hv : Vis X.env.scope y := by first | exact Or.inl rfl | exact Or.inr (Or.inl rfl) | exact Or.inr (Or.inr rfl)) (hd : (y == ("__debug__" : PySem.Str)) = false := by decide) (hcd : (y == ("__classdict__" : PySem.Str)) = false := by decide)
    (ha : ∀ v, assign (.Subscript (.Name y pn) e p2) X.env v = (do
      let ov ← holding [v] (eval (.Name y pn) X.env)
      let iv ← holding [v, ov] (eval e X.env)
      standAt p2
      holding [v, ov, iv] (setItem ov iv v)
      release [v, ov, iv] []) := by intro _; rfl)
    (hs : swapsWithSole [.Subscript (.Name y pn) e p2] (.Constant (.bool true) jc p1) pos.line X.env = pure false := by rfl) (hw : swappedStores [.Subscript (.Name y pn) e p2] (.Constant (.bool true) jc p1) X.env = pure none := by rfl)
    (hA : (assignEach [.Subscript (.Name y pn) e p2] X.env).map (·.2) = [assign (.Subscript (.Name y pn) e p2) X.env] := by rfl) :
    PS X (.Assign [.Subscript (.Name y pn) e p2] (.Constant (.bool true) jc p1) pos) (LDd c i (ddPut t)) :=
  (ps_asg pe_bl (pg_sub (pe_var hN hv hd hcd) he (set_B (hu_of hr)) ha) hs hw hA).weak fun D σ H ⟨p, L, s, DD, rp, dc, q, f⟩ => by
    refine ⟨_, dc.at_, s, _, rp, q, fun d k ⟨rr, hd, hl, hR⟩ v H1 r1 a1 e1 => ?_⟩
    subst hd
    obtain ⟨qa, vs, rfl, h1, ra⟩ := e1.tupE
    obtain rfl := ra.ints_v
    have dc1 := dc.on (k := k) a1
    rw [List.length_map] at hl
    refine ⟨p, qa, L, rr, rfl, rfl, rfl, dc1.obj, fun x hx => hK ▸ (wo_sub _ _ : Sub _ _).st (dc1.keys x hx), hK ▸ (wo_sub _ _ : Sub _ _).st h1, hl, ?_⟩
    have m := Rep.mutX (s := s.at k) r1 (o := .ext (DbE p (addB L qa rr))) dc1.mem dc1.out (fun j ds => plain_no dc1.pl j p ds) (dbe_tb dc1.obj)
    refine f.nx _ σ _ (addB L qa rr) m.1 (a1.sub.trans m.2) ⟨dc1.slot, dc1.at_, dc1.mem, dc1.out, dc1.pl, upd_same, fun x hx => m.2.st ?_⟩ (by rw [map_addB]; exact hR)
    unfold addB at hx
    split at hx
    · exact dc1.keys x hx
    · rcases List.mem_append.mp hx with hx | hx
      · exact dc1.keys x hx
      · rw [List.mem_singleton.mp hx]; exact h1
theorem ps_ddret {j : Nat} (hr : Room j X.A) (hK : c.K = X.K) (hc : X.calm = true) (hm : X.mg "sorted" = none) {y : PySem.Str} {pn pl p2 : Pos} (hN : X.N[i]? = some y := by rfl) (hv : Vis X.env.scope y := by first | exact Or.inl rfl | exact Or.inr (Or.inl rfl) | exact Or.inr (Or.inr rfl)) (hd : (y == ("__debug__" : PySem.Str)) = false := by decide) (hcd : (y == ("__classdict__" : PySem.Str)) = false := by decide) (hgl : Gl X "sorted" := by rfl)
    (hst : starEach [Expr.Name y pn] X.env = (false, eval (Expr.Name y pn) X.env) :: starEach [] X.env := by rfl) (hpl : (backTo p2 (starEach [] X.env)).any (·.1) = false := by rfl) :
    PS X (.Return (some (.Call (.Name "sorted" pl) [.Name y pn] [] p2)) pos) (LDd c i ddRetS) :=
  (ps_ret (pe_callB (cr_sortedDB hc hr.units) hgl hm (by first | exact PySem.boot_sorted | exact PyProof.Rows.boot_sorted | rfl) (pa_cons (pe_var hN hv hd hcd) pa_nil hst) (he := hst) (hpl := hpl))).weak fun D σ H ⟨p, L, s, DD, rp, dc, ⟨hne, hz, hR⟩, f⟩ => by
    rw [List.length_map] at hz
    refine ⟨_, dc.at_, p, L, rfl, dc.obj, fun x hx => hK ▸ (wo_sub _ _ : Sub _ _).st (dc.keys x hx), fun x hx => hne _ (List.mem_map.mpr ⟨x, hx, rfl⟩), hz, fun q hq => ?_⟩
    have pf := rp.frz
    have n2 := pf.new (o := .lst ((L.mergeSort leP).map fun z => V.ref z.1)) hq
    have es : (L.map (·.2)).mergeSort leI = (L.mergeSort leP).map (·.2) := (PySem.W.sort_maps (r := leP) (s := leI) (l := L) (fun z : Addr × List Int => z.2) (fun a _ b _ => rfl)).symm
    rw [es, List.map_map] at hR
    refine f.rt _ s.k _ _ n2.1.fin (.lst (pf.at_new (o := .lst ((L.mergeSort leP).map fun z => V.ref z.1)) hq) (RlA.ofTups fun z hz => n2.2.sub.st (rp.sub0.st (dc.keys z (List.mem_mergeSort.mp hz))))) hR
end
end DL
set_option maxHeartbeats 1000000
namespace DL
open PySem L2
open PySem.W (Frag)
abbrev dDct (i : Nat) (t : DE) (body : DdS) : DS := fun DD s => i < s.sl.length ∧ ∀ p, p ∉ s.X → t (s.own p s.k) fun d k => ∃ r, d = tuI r ∧ (s.sl.set i .no).all Sl.plain = true ∧
  body { nx := fun s' _ => DD.nx s', rt := DD.rt, bk := fun s' _ => DD.bk s', ct := fun s' _ => DD.ct s' } ((s.own p k).put i .no) [r]
section
variable {X : Cx} {c : C}
theorem psd_dct {j : Nat} (hr : Room j X.A) (hK : c.K = X.K) (i : Nat) {x : PySem.Str} {p1 p2 p3 p4 : Pos} {jc : Nat} {k : Expr} {t : DE} {rest : List Stmt} {body : DdS} (hNd : X.N.Nodup) (hk : PE X k (LE c t)) (hrest : PSs X rest (LDd c i body))
    (hi : X.N[i]? = some x := by rfl) (hz : Loc X.env.scope x := by first | exact Or.inl rfl | exact Or.inr rfl) (hs : swapsWith (.Dict [some k] [.Constant (.bool true) jc p4] p2) (some (.Name x p1)) p3.line X.env = pure false := by rfl) (hf : X.fn x = true ∨ X.env.scope.names.lookup x = some .local := by first | exact .inl rfl | exact .inr rfl) :
    PSs X (.Assign [.Name x p1] (.Dict [some k] [.Constant (.bool true) jc p4] p2) p3 :: rest) (LS c (dDct i t body)) :=
  (pss_cons (ps_set hNd hi hz (pe_disR (hu_of hr) hk) hs hf) hrest).weak fun D σ H ⟨s, DD, rp, ⟨hil, q⟩, f⟩ => by
    intro p hp
    obtain ⟨n1, n2, n3, n4⟩ := rp.nofree hp
    have h := rp.hide (o := .ext (DbE p [])) hp
    refine ⟨s.own p s.k, _, h.1, q p n1, fun d k1 ⟨r, hd, hpl, hR⟩ v H2 r2 a2 e2 => ?_⟩
    subst hd
    obtain ⟨qa, vs, rfl, h1, ra⟩ := e2.tupE
    obtain rfl := ra.ints_v
    have ob : H2 p = some (.ext (DbE p [])) := by rw [a2.own p List.mem_cons_self]; exact upd_same
    refine ⟨qa, r, rfl, ob, hK ▸ (wo_sub _ _ : Sub _ _).st h1, ?_⟩
    have no : ∀ (j : Nat) ds, s.sl[j]? ≠ some (.own p ds) := fun j ds => rp.noslot n1 j ds
    have m := Rep.mutX (s := (s.own p s.k).at k1) r2 (o := .ext (DbE p [(qa, r)])) List.mem_cons_self n3 no (dbe_tb ob)
    have m2 := m.1.put (i := i) (v := V.ref p) (x := .no) trivial (fun _ _ z => nomatch z)
    have hl : i < σ.length := by rw [← rp.len]; exact hil
    refine ⟨p, [(qa, r)], (s.own p k1).put i .no, _, m2, ⟨by show (s.sl.set i .no)[i]? = _; rw [List.getElem?_set_self hil], by rw [List.getElem?_set_self hl], List.mem_cons_self, n3, hpl, upd_same, fun y hy => ?_⟩, hR, ?_⟩
    · rw [List.mem_singleton.mp hy]
      exact m.2.st h1
    · have ad : Adv' c s.X H (p :: s.X) (upd H2 p (.ext (DbE p [(qa, r)]))) := (h.2.trans a2.sub).trans m.2
      exact ⟨fun s' σ' H' L' r' b z q' => f.nx s' σ' H' r' (ad.trans b) q', fun s' σ' H' L' r' b z q' => f.bk s' σ' H' r' (ad.trans b) q', fun s' σ' H' L' r' b z q' => f.ct s' σ' H' r' (ad.trans b) q', f.rt⟩
end
end DL
set_option maxHeartbeats 1000000
namespace DL
open PySem PySem.Spec PyProof.Rows L2
open PySem.W (Frag)
abbrev dMin2 (t u : DE) : DE := fun s Q => t s fun d k => u (s.at k) fun e k2 => ∃ i j : Int, d = .int i ∧ e = .int j ∧ Q (.int (if j < i then j else i)) k2
section
variable {X : Cx} {c : C} {p pos apos : Pos} {e o : Expr} {t u : DE}
theorem pd_min2 {e2 : Expr} (hm : X.mg "min" = none) (hc : X.calm = true) (h : PE X e (LE c t)) (h2 : PE X e2 (LE c u)) (hg : Gl X "min" := by rfl) (hs : starEach [e, e2] X.env = (false, eval e X.env) :: starEach [e2] X.env := by rfl) (hs2 : starEach [e2] X.env = (false, eval e2 X.env) :: starEach [] X.env := by rfl) (hp : (backTo pos (starEach [e2] X.env)).any (·.1) = false := by rfl) : PE X (.Call (.Name "min" p) [e, e2] [] pos) (LE c (dMin2 t u)) :=
  (pe_callB (call_min2 hc) hg hm (by decide +kernel) (pa_cons h (pa_cons h2 pa_nil hs2) hs) (he := hs) (hpl := hp)).weak fun σ H Q ⟨s, R, rp, q, f⟩ => ⟨s, _, rp, q, fun d k h1 v H1 r1 a1 e1 => ⟨s.at k, _, r1, h1, fun e k2 ⟨i, j, hd, he, hq⟩ w H2 r2 a2 e2 => by
    subst hd he
    cases e1.intE
    cases e2.intE
    exact ⟨i, j, rfl, f _ k2 hq _ H2 r2 (a1.trans a2) (.int _)⟩⟩⟩
theorem Yl.str {s0 : S} {Hs : Hp} {x : PySem.Str} : Yl c s0 Hs (Its x) (x.cps.toList.map fun c => .str ⟨#[c]⟩) := fun i s σ H rp ad => by
  refine ⟨fun hl => by show x.cps.size ≤ i; rw [List.length_map, Array.length_toList] at hl; exact hl, fun d hd => ?_⟩
  rw [List.getElem?_map] at hd
  obtain ⟨z, hz, rfl⟩ := Option.map_eq_some_iff.mp hd
  rw [Array.getElem?_toList] at hz
  refine ⟨(Array.getElem?_eq_some_iff.mp hz).1, fun v H' ⟨e1, c1, e2, e3⟩ => ?_⟩
  subst e1 e3
  rw [hz] at e2
  cases e2
  exact ⟨rp, AdvE.refl, .str _⟩
end
end DL
set_option maxHeartbeats 1000000
namespace BW
open PySem L2 DL
abbrev t_rb1 : DdS := (ddForK 2 (dgN 4) (ddPut (dCall sp__law_pressedL (dCons (dVar 0) (dCons (dVar 4) (dCons (dVar 3) dNil))))))
abbrev t__law_rows_by : DS := (dDct 2 (dOp oMul (dTup (dCons (dC (.int 1)) dNil)) (dLenN 0))
  (ddSeq (ddFor 2 (iTp (dVar 1)) (dgN 3) t_rb1)
  ddRetS))
def sp__law_rows_by : DSp := fun ds k R => ∃ T w, ds = [lM T, tI w] ∧ Tab T ∧ Wd T.length w ∧ w.length ≤ 11 ∧ R (tIs (unL T w)) k
abbrev slRb (T : Mat) (w : List Int) (x3 x4 : Sl) : List Sl := [.dat (lM T), .dat (tI w), .no, x3, x4]
theorem unL_few (T : Mat) {y : List Int} (h : y.length ≤ 11) {ks : List (List Int)} (nd : ks.Nodup) (hm : ∀ r ∈ ks, r ∈ unL T y) : ks.length ≤ 2048 := by
  have h1 := nd_sub_len nd hm
  have h2 := unL_len T y
  have h3 : 2 ^ y.length ≤ 2 ^ 11 := Nat.pow_le_pow_right (by decide) h
  have e : (2 : Nat) ^ 11 = 2048 := by decide
  omega
section
variable {T : Mat} {w y : List Int} {a : Int} {X : List Addr} {k : Nat} {x3 x4 : Sl} {DD : DdE} {ks : List (List Int)}
theorem r_rb1 (ht : Tab T) (hy : y.length ≤ 11) (a0 : 1 ≤ a) (a1 : a ≤ T.length) (nd : ks.Nodup) (hk : ∀ r, r ∈ ks ↔ r ∈ unL T y) (h4 : x4.plain = true)
    (fin : ∀ x4 ks', x4.plain = true → ks'.Nodup → (∀ r, r ∈ ks' ↔ r ∈ unL T y ++ (unL T y).map fun r => press T r (ix a)) → DD.nx ⟨X, slRb T w (.dat (.int a)) x4, k⟩ ks') :
    t_rb1 DD ⟨X, slRb T w (.dat (.int a)) x4, k⟩ ks := by
  have lk := unL_few T hy nd fun r hr => (hk r).mp hr
  refine ⟨by omega, fun j s' ks' => j ≤ ks.length ∧ ∃ x4, s' = ⟨X, slRb T w (.dat (.int a)) x4, k⟩ ∧ x4.plain = true ∧ ks'.Nodup ∧ ∀ r, r ∈ ks' ↔ r ∈ ks ∨ r ∈ (ks.take j).map fun q => press T q (ix a), ⟨Nat.zero_le _, x4, rfl, h4, nd, fun r => by simp⟩, ?_, ?_⟩
  · rintro j q s' ks' hq ⟨hj, y4, rfl, p4, nd', hm⟩
    have jl := (List.getElem?_eq_some_iff.mp hq).1
    have lq : q.length = T.length := unL_row ((hk q).mp (List.mem_of_getElem? hq))
    have few : ks'.length ≤ 4096 := by
      have h1 := nd_sub_len (z := ks ++ ks.map fun q => press T q (ix a)) nd' fun r hr => by
        rcases (hm r).mp hr with h | h
        · exact List.mem_append_left _ h
        · obtain ⟨q, hq, rfl⟩ := List.mem_map.mp h
          exact List.mem_append_right _ (List.mem_map.mpr ⟨q, List.mem_of_mem_take hq, rfl⟩)
      rw [List.length_append, List.length_map] at h1
      omega
    refine ⟨⟨rfl, rfl⟩, ?_⟩
    refine ⟨_, rfl, _, rfl, _, rfl, T, q, a, rfl, ht, lq, a0, a1, press T q (ix a), rfl, by omega, by omega, .dat (tuI q), rfl, rfl, ?_, fun r => ?_⟩
    · split
      · exact nd'
      · rename_i z
        exact List.nodup_append.mpr ⟨nd', List.pairwise_singleton _ _, fun b hb c hc e => z (by rw [List.mem_singleton.mp hc] at e; rw [← e]; exact hb)⟩
    · have et : ks.take (j + 1) = ks.take j ++ [q] := by rw [List.take_succ, hq]; rfl
      rw [et, List.map_append]
      split
      · rename_i z
        rw [hm r]
        constructor
        · rintro (h | h)
          · exact .inl h
          · exact .inr (List.mem_append_left _ h)
        · rintro (h | h)
          · exact .inl h
          · rcases List.mem_append.mp h with h | h
            · exact .inr h
            · have : r = press T q (ix a) := by simpa using h
              rw [this]
              exact (hm _).mp z
      · rw [List.mem_append, hm r]
        constructor
        · rintro ((h | h) | h)
          · exact .inl h
          · exact .inr (List.mem_append_left _ h)
          · exact .inr (List.mem_append_right _ (by simpa using h))
        · rintro (h | h)
          · exact .inl (.inl h)
          · rcases List.mem_append.mp h with h | h
            · exact .inl (.inr h)
            · exact .inr (by simpa using h)
  · rintro s' ks' ⟨_, y4, rfl, p4, nd', hm⟩
    refine fin y4 ks' p4 nd' fun r => ?_
    rw [hm r, List.take_length, List.mem_append, hk r, List.mem_map, List.mem_map]
    constructor
    · rintro (h | ⟨q, h1, h2⟩)
      · exact .inl h
      · exact .inr ⟨q, (hk q).mp h1, h2⟩
    · rintro (h | ⟨q, h1, h2⟩)
      · exact .inl h
      · exact .inr ⟨q, (hk q).mpr h1, h2⟩
end
theorem r__law_rows_by (X : List Addr) (ds : List D) (k : Nat) (R : D → Nat → Prop) (h : sp__law_rows_by ds k R) : t__law_rows_by (En R) (St0 false 5 ds X k) := by
  obtain ⟨T, w, rfl, ht, hw, hl, h⟩ := h
  have lt : (T.map lI).length = T.length := List.length_map ..
  have hT := ht.hi
  have lo := ht.lo
  have eo : (List.replicate (((T.map lI).length : Nat) : Int).toNat [D.int 1]).flatten = (one T).map .int := by rw [Int.toNat_natCast, lt]; exact rep_one _
  refine ⟨by show 2 < 5; decide, fun p hp => ?_⟩
  refine ⟨by decide, _, rfl, by simp, by rw [lt]; omega, by rw [lt]; omega, by decide, ?_⟩
  rw [eo]
  refine ⟨one T, rfl, rfl, ?_⟩
  refine ⟨_, rfl, _, rfl, fun n s' ks => n ≤ w.length ∧ ∃ x3 x4, s' = ⟨p :: X, slRb T w x3 x4, k⟩ ∧ x3.plain = true ∧ x4.plain = true ∧ ks.Nodup ∧ ∀ r, r ∈ ks ↔ r ∈ unL T (w.take n), ⟨Nat.zero_le _, .no, .no, rfl, rfl, rfl, by simp, fun r => by rw [List.take_zero, unL_nil]⟩, ?_, ?_⟩
  · rintro n e s' ks he ⟨hn, x3, x4, rfl, p3, p4, nd, hk⟩
    rw [List.getElem?_map] at he
    obtain ⟨a, ha, rfl⟩ := Option.map_eq_some_iff.mp he
    have nl := (List.getElem?_eq_some_iff.mp ha).1
    have ab := hw a (List.mem_of_getElem? ha)
    refine ⟨⟨rfl, ?_⟩, r_rb1 ht (y := w.take n) (by rw [List.length_take]; omega) ab.1 ab.2 nd hk p4 fun y4 ks' q4 nd' hm => ⟨by omega, .dat (.int a), y4, rfl, rfl, q4, nd', fun r => ?_⟩⟩
    · show (true && (true && (true && (true && (x4.plain && true))))) = true
      rw [p4]; rfl
    · have e := unL_snoc nd' hm
      rw [List.take_succ, ha]
      show _ ↔ r ∈ unL T (w.take n ++ [a])
      rw [← e, List.mem_mergeSort]
  · rintro s' ks ⟨_, x3, x4, rfl, _, _, nd, hk⟩
    rw [List.length_map, List.take_length] at hk
    have e : ks.mergeSort leI = unL T w := unL_is nd fun r => by rw [hk r, mem_unL]
    refine ⟨fun r hr z => ?_, by have := unL_few T hl nd (fun r hr => (hk r).mp hr); omega, ?_⟩
    · have := unL_row ((hk r).mp hr)
      rw [z] at this
      have : 0 = T.length := this
      omega
    · rw [e]
      exact h
end BW
set_option maxHeartbeats 1000000
namespace BW
open PySem L2 DL
abbrev t_least_to_strike (BC : Addr) : DS := (dSeq (dSet 2 (dCall (sp_least_word BC) (dCons (dVar 0) (dCons (dVar 1) dNil)))) (dSeq (dIfS (dTB (dOp oGt (dLenN 2) (dC (.int (12))))) (fun _ _ => False) dNext) (dRet (dVar 2))))
def sp_least_to_strike (BC : Addr) : DSp := fun ds k R => ∃ T d w, ds = [bnd BC T, d] ∧ Tab T ∧ isW d w ∧ w.length ≤ 60 ∧ Wd T.length w ∧ (lw T w).length ≤ 11 ∧ R (tI (lw T w)) k
theorem r_least_to_strike (BC : Addr) (X : List Addr) (ds : List D) (k : Nat) (R : D → Nat → Prop) (h : sp_least_to_strike BC ds k R) : t_least_to_strike BC (En R) (St0 false 3 ds X k) := by
  obtain ⟨T, d, w, rfl, ht, hd, hl, hw, ly, h⟩ := h
  refine ⟨_, rfl, _, rfl, T, d, w, rfl, ht, hd, hl, hw, ?_⟩
  refine ⟨_, rfl, _, rfl, ?_⟩
  have : ¬ (12 : Int) < (((lw T w).map D.int).length : Int) := by rw [List.length_map]; omega
  rw [decide_eq_false this]
  exact iteF fun X' => ⟨_, rfl, h⟩
abbrev t_rbw1 (BC : Addr) : DS := (dSet 2 (dFr (dSortSetB (dOp oAdd (dVar 2) (dFr (dLc (iLst (dVar 2)) (dgN 4) dY (dCall (sp_pressed BC) (dCons (dVar 0) (dCons (dVar 4) (dCons (dVar 3) dNil)))) [4]))))))
abbrev t_rows_below (BC : Addr) : DS := (dSeq (dSet 2 (dFr (dLs (dCons (dCall (sp_first_row BC) (dCons (dVar 0) dNil)) dNil)))) (dSeq (dFor (iTp (dCall (sp_least_to_strike BC) (dCons (dVar 0) (dCons (dVar 1) dNil)))) (dgN 3) (t_rbw1 BC)) (dRet (dVar 2))))
def sp_rows_below (BC : Addr) : DSp := fun ds k R => ∃ T d w, ds = [bnd BC T, d] ∧ Tab T ∧ isW d w ∧ w.length ≤ 60 ∧ Wd T.length w ∧ (lw T w).length ≤ 11 ∧ R (tIs (unL T (lw T w))) k
section
variable {BC : Addr} {T : Mat} {d : D} {L : List (List Int)} {y : List Int} {a : Int} {X : List Addr} {k : Nat} {x2 x3 x4 : Sl} {DD : DEnds}
abbrev slRw (BC : Addr) (T : Mat) (d : D) (x2 x3 x4 : Sl) : List Sl := [.dat (bnd BC T), .dat d, x2, x3, x4]
theorem r_rbw1 (ht : Tab T) (h : ∀ r ∈ L, r.length = T.length) (ll : L.length ≤ 2000) (a0 : 1 ≤ a) (a1 : a ≤ T.length) (fin : ∀ (x4 : Sl) (M : List (List Int)), M.Nodup → (∀ r, r ∈ M ↔ r ∈ L ++ L.map fun r => press T r (ix a)) → DD.nx ⟨X, slRw BC T d (.dat (tIs (M.mergeSort leI))) (.dat (.int a)) x4, k⟩) : t_rbw1 BC DD ⟨X, slRw BC T d (.dat (tIs L)) (.dat (.int a)) x4, k⟩ := by
  have lm : (L.map tI).length = L.length := List.length_map ..
  have l5 : ∀ {n : Nat}, n ≤ 10000 → n ≤ lim := fun h => l10k h
  refine ⟨_, rfl, _, rfl, _, rfl, by rw [lm]; exact l5 (by omega), fun p hp => ⟨fun j acc k' => k' = k ∧ acc = ((L.take j).map fun r => press T r (ix a)).map tI, ⟨rfl, rfl⟩, ?_, ?_⟩⟩
  · rintro j e acc k' he ⟨rfl, rfl⟩ _
    rw [List.getElem?_map] at he
    obtain ⟨r, hr, rfl⟩ := Option.map_eq_some_iff.mp he
    refine iteT ⟨_, rfl, _, rfl, _, rfl, T, r, a, rfl, ht, h r (List.mem_of_getElem? hr), a0, a1, ?_⟩
    refine ⟨rfl, ?_⟩
    rw [List.take_succ, hr, List.map_append, List.map_append]; rfl
  · rintro acc k' ⟨rfl, rfl⟩ _
    rw [lm, List.take_length]
    refine ⟨by rw [lm, List.length_map, List.length_map]; exact l5 (by omega), ?_⟩
    refine ⟨L ++ L.map fun r => press T r (ix a), by rw [List.map_append], by rw [List.length_append, List.length_map]; omega, fun w hw z => ?_, fun M nd hM => fin x4 M nd hM⟩
    have lo := ht.lo
    have e : w.length = T.length := by
      rcases List.mem_append.mp hw with b | b
      · exact h w b
      · obtain ⟨q, _, rfl⟩ := List.mem_map.mp b
        exact press_length T q _
    rw [z] at e
    have : 0 = T.length := e
    omega
end
theorem r_rows_below (BC : Addr) (X : List Addr) (ds : List D) (k : Nat) (R : D → Nat → Prop) (h : sp_rows_below BC ds k R) : t_rows_below BC (En R) (St0 false 5 ds X k) := by
  obtain ⟨T, d, w, rfl, ht, hd, hl, hw, ly, h⟩ := h
  obtain ⟨_, yw, _, _⟩ := lw_row2 ht hw hl
  refine ⟨_, rfl, T, rfl, ht, by show 1 ≤ lim; decide, ?_⟩
  refine ⟨_, rfl, _, rfl, T, d, w, rfl, ht, hd, hl, hw, ly, _, rfl, fun i s' => i ≤ (lw T w).length ∧ ∃ x3 x4, s' = ⟨X, slRw BC T d (.dat (tIs (unL T ((lw T w).take i)))) x3 x4, k⟩, ⟨Nat.zero_le _, .no, .no, ?_⟩, ?_, ?_⟩
  · show (⟨X, [.dat (bnd BC T), .dat d, .dat (.lst [tI (one T)]), .no, .no], k⟩ : S) = _
    rw [List.take_zero, unL_nil]; rfl
  · rintro i e s' he ⟨hi, x3, x4, rfl⟩
    rw [List.getElem?_map] at he
    obtain ⟨a, ha, rfl⟩ := Option.map_eq_some_iff.mp he
    have il := (List.getElem?_eq_some_iff.mp ha).1
    have ab := yw a (List.mem_of_getElem? ha)
    have few := unL_len T ((lw T w).take i)
    have : 2 ^ ((lw T w).take i).length ≤ 2 ^ 10 := Nat.pow_le_pow_right (by decide) (by rw [List.length_take]; omega)
    have e10 : (2 : Nat) ^ 10 = 1024 := by decide
    refine r_rbw1 ht (fun r hr => unL_row hr) (by omega) ab.1 ab.2 fun x4 M nd hM => ?_
    refine ⟨by omega, .dat (.int a), x4, ?_⟩
    rw [unL_snoc nd hM, List.take_succ, ha]
    rfl
  · rintro s' ⟨hi, x3, x4, rfl⟩
    rw [List.length_map, List.take_length]
    exact fun X' => ⟨_, rfl, h⟩
abbrev t_count_below (BC : Addr) : DS := (dRet (dLen (dCall (sp_rows_below BC) (dCons (dVar 0) (dCons (dVar 1) dNil)))))
def sp_count_below (BC : Addr) : DSp := fun ds k R => ∃ T d w, ds = [bnd BC T, d] ∧ Tab T ∧ isW d w ∧ w.length ≤ 60 ∧ Wd T.length w ∧ (lw T w).length ≤ 11 ∧ R (.int ((unL T (lw T w)).length : Nat)) k
theorem r_count_below (BC : Addr) (X : List Addr) (ds : List D) (k : Nat) (R : D → Nat → Prop) (h : sp_count_below BC ds k R) : t_count_below BC (En R) (St0 false 2 ds X k) := by
  obtain ⟨T, d, w, rfl, ht, hd, hl, hw, ly, h⟩ := h
  intro X'
  refine ⟨_, rfl, _, rfl, T, d, w, rfl, ht, hd, hl, hw, ly, _, rfl, ?_⟩
  show R (.int (((unL T (lw T w)).map tI).length : Nat)) k
  rw [List.length_map]
  exact h
end BW
set_option maxHeartbeats 1000000
set_option maxHeartbeats 1000000
namespace BW
open PySem L2 DL
def sp_check_led : DSp := fun ds k R => spX_check_led ds k R fun _ _ => False
def sp_row_to_spell (BC : Addr) : DSp := fun ds k R => ∃ T d w, ds = [bnd BC T, d] ∧ Tab T ∧ isW d w ∧ w.length ≤ 16 ∧ Wd T.length w ∧ R (tI (row T w.reverse)) k
abbrev t_row_to_spell (BC : Addr) : DS := (dSeq (dSet 2 (dCall sp_as_word (dCons (dVar 1) (dCons (dLenO BC (sp_len_Bonds BC) (dVar 0)) dNil))))
  (dSeq (dDrop (dCall sp_check_led (dCons (dVar 2) dNil)))
  (dRet (dCall (sp_row_behind BC) (dCons (dVar 0) (dCons (dRev (dVar 2)) dNil))))))
theorem r_row_to_spell (BC : Addr) (X : List Addr) (ds : List D) (k : Nat) (R : D → Nat → Prop) (h : sp_row_to_spell BC ds k R) : t_row_to_spell BC (En R) (St0 false 3 ds X k) := by
  obtain ⟨T, d, w, rfl, ht, hw, hl, hwd, h⟩ := h
  have hT := ht.hi
  refine ⟨_, rfl, _, rfl, ⟨_, _, rfl⟩, T, rfl, hT, T.length, rfl, by omega, d, w, T.length, rfl, hw, by omega, hwd, ?_⟩
  refine ⟨_, rfl, tI w, w.map D.int, rfl, rfl, ?_⟩
  rw [List.length_map]
  refine .inr ⟨hl, fun X' => ?_⟩
  refine ⟨_, rfl, _, rfl, ?_⟩
  exact ⟨T, .tup ((w.map D.int).reverse), w.reverse, rfl, ht, .inr (by show D.tup ((w.map D.int).reverse) = tI w.reverse; rw [← List.map_reverse]), fun a ha => hwd a (List.mem_reverse.mp ha), h⟩
abbrev t_check_led : DS := (dIfS (dTB (dOp oGt (dLenN 0) (dC (.int (16))))) (fun _ _ => False) dNext)
theorem r_check_led (X : List Addr) (ds : List D) (k : Nat) (R : D → Nat → Prop) (h : sp_check_led ds k R) : t_check_led (En R) (St0 false 1 ds X k) := by
  obtain ⟨d, xs, rfl, hi, h⟩ := h
  rcases h with ⟨_, h⟩ | ⟨c, h⟩
  · exact h.elim
  cases d <;> first
    | (cases hi; done)
    | (cases hi; exact ⟨_, rfl, _, rfl, by rw [decide_eq_false (by omega)]; exact h⟩)
end BW
set_option maxHeartbeats 1000000
namespace BW
open PySem L2 DL
open Classical in
noncomputable def dnW (T : Mat) (z : List Int) (a : Int) : List Int := if h : ∃ y : List Int, Wd T.length y ∧ y.length + 1 ≤ z.length ∧ press T (row T z) (ix a) = row T y then h.choose else []
theorem dnW_ok {T : Mat} (ht : Tab T) {z : List Int} {a : Int} (hz : Wd T.length z) (ha : a ∈ fall (row T z)) : Wd T.length (dnW T z a) ∧ (dnW T z a).length + 1 ≤ z.length ∧ press T (row T z) (ix a) = row T (dnW T z a) := by
  have h : ∃ y : List Int, Wd T.length y ∧ y.length + 1 ≤ z.length ∧ press T (row T z) (ix a) = row T y := by
    obtain ⟨y, h1, h2, h3, _⟩ := fall_dn ht hz ha
    exact ⟨y, wd_sub h1 hz, by omega, h3⟩
  unfold dnW
  rw [dif_pos h]
  exact h.choose_spec
abbrev PW := List Int × List Int
def encW (T : Mat) (p : PW) : D := .tup [tI p.1, tI (row T p.2)]
def totW (T : Mat) (ws : List PW) : List (List Int) := ws.reverse.flatMap fun p => (spS T (row T p.2)).map (p.1 ++ ·)
def mesW (ws : List PW) : Nat := (ws.map fun p => 7 ^ p.2.length).sum
noncomputable def kidW (T : Mat) (f z : List Int) (a : Int) : PW := (f ++ [a], dnW T z a)
theorem totW_app (T : Mat) (ws vs : List PW) : totW T (ws ++ vs) = totW T vs ++ totW T ws := by
  unfold totW
  rw [List.reverse_append, List.flatMap_append]
theorem totW_one (T : Mat) (f z : List Int) : totW T [(f, z)] = (spS T (row T z)).map (f ++ ·) := by
  unfold totW
  simp
theorem spF_ne (T : Mat) : ∀ (n : Nat) (r : List Int), spF T n r ≠ []
  | 0, _ => by show ([[]] : List (List Int)) ≠ []; simp
  | n + 1, r => by
    show (if fall r = [] then [[]] else (fall r).flatMap fun a => (spF T n (press T r (ix a))).map (a :: ·)) ≠ []
    cases e : fall r with
    | nil => rw [if_pos rfl]; simp
    | cons a l =>
      rw [if_neg (by simp), List.flatMap_cons]
      intro z
      have := (List.append_eq_nil_iff.mp z).1
      exact spF_ne T n _ (List.map_eq_nil_iff.mp this)
theorem totW_len (T : Mat) : ∀ ws : List PW, ws.length ≤ (totW T ws).length
  | [] => by simp
  | p :: ws => by
    rw [show p :: ws = [p] ++ ws from rfl, totW_app, List.length_append, List.length_append]
    have := totW_len T ws
    have h1 : totW T [p] ≠ [] := by
      obtain ⟨f, z⟩ := p
      rw [totW_one]
      exact fun e => spF_ne T 61 _ (List.map_eq_nil_iff.mp e)
    have h2 := List.length_pos_iff.mpr h1
    show [p].length + ws.length ≤ _
    rw [List.length_singleton]
    omega
theorem totW_end {T : Mat} (ht : Tab T) {f z : List Int} (hz : Wd T.length z) (hl : z.length ≤ 60) (e : fall (row T z) = []) : totW T [(f, z)] = [f] := by
  rw [totW_one, spS_eq ht hz hl, if_pos e]
  simp
theorem totW_kids {T : Mat} (ht : Tab T) {f z : List Int} (hz : Wd T.length z) (hl : z.length ≤ 60) (e : fall (row T z) ≠ []) : totW T ((fall (row T z)).reverse.map (kidW T f z)) = totW T [(f, z)] := by
  rw [totW_one, spS_eq ht hz hl, if_neg e]
  unfold totW
  rw [← List.map_reverse, List.reverse_reverse, List.flatMap_map, List.map_flatMap, List.flatMap_def, List.flatMap_def]
  refine congrArg List.flatten (List.map_congr_left fun a ha => ?_)
  obtain ⟨_, _, h3⟩ := dnW_ok ht hz ha
  show (spS T (row T (dnW T z a))).map ((f ++ [a]) ++ ·) = ((spS T (press T (row T z) (ix a))).map (a :: ·)).map (f ++ ·)
  rw [h3, List.map_map]
  refine List.map_congr_left fun u _ => ?_
  show f ++ [a] ++ u = f ++ (a :: u)
  rw [List.append_assoc]; rfl
theorem mesW_app (ws vs : List PW) : mesW (ws ++ vs) = mesW ws + mesW vs := by unfold mesW; rw [List.map_append, List.sum_append]
theorem sum_le_mul {c : Nat} : ∀ {l : List Nat}, (∀ x ∈ l, x ≤ c) → l.sum ≤ l.length * c
  | [], _ => by simp
  | x :: l, h => by
    have := sum_le_mul (l := l) fun y hy => h y (List.mem_cons_of_mem _ hy)
    have h1 := h x List.mem_cons_self
    rw [List.sum_cons, List.length_cons, Nat.add_mul]
    omega
theorem mesW_kids {T : Mat} (ht : Tab T) {f z : List Int} (hz : Wd T.length z) : mesW ((fall (row T z)).reverse.map (kidW T f z)) < mesW [(f, z)] := by
  have hT := ht.hi
  have hf := fall_le (row T z)
  rw [row_length] at hf
  have h1 : mesW [(f, z)] = 7 ^ z.length := by unfold mesW; simp
  rw [h1]
  cases e : fall (row T z) with
  | nil => exact Nat.pos_of_ne_zero (by simp)
  | cons a0 l0 =>
    rw [← e]
    obtain ⟨n, hn⟩ : ∃ n, z.length = n + 1 := by
      obtain ⟨_, h2, _⟩ := dnW_ok ht hz (a := a0) (by rw [e]; exact List.mem_cons_self)
      exact ⟨z.length - 1, by omega⟩
    have h2 := sum_le_mul (c := 7 ^ n) (l := ((fall (row T z)).reverse.map (kidW T f z)).map fun p => 7 ^ p.2.length) fun x hx => by
      obtain ⟨p, hp, rfl⟩ := List.mem_map.mp hx
      obtain ⟨a, ha, rfl⟩ := List.mem_map.mp hp
      obtain ⟨_, h3, _⟩ := dnW_ok ht hz (List.mem_reverse.mp ha)
      exact Nat.pow_le_pow_right (by decide) (by show (dnW T z a).length ≤ n; omega)
    rw [List.length_map, List.length_map, List.length_reverse] at h2
    have h4 : (fall (row T z)).length * 7 ^ n ≤ 6 * 7 ^ n := Nat.mul_le_mul_right _ (by omega)
    have h5 : 0 < 7 ^ n := Nat.pow_pos (by decide)
    rw [hn, Nat.pow_succ]
    unfold mesW
    omega
def spG_shortest_words (BC : Addr) : DSpG := fun ds R _ => ∃ T d w, ds = [bnd BC T, d] ∧ Tab T ∧ isW d w ∧ w.length ≤ 16 ∧ Wd T.length w ∧ (spS T (row T w.reverse)).length ≤ 100000 ∧ R ((spS T (row T w.reverse)).map tI)
abbrev tG_sw2 (BC : Addr) : DGS := (dgPl (dFor (iRvT (dVar 5)) (dgN 6) (dApp 2 (dTup (dCons (dTup (dStar (dVar 3) (dCons (dVar 6) dNil))) (dCons (dCall (sp_pressed BC) (dCons (dVar 0) (dCons (dVar 4) (dCons (dVar 6) dNil)))) dNil))))))
abbrev tG_sw1 (BC : Addr) : DGS := (dgSeq (dgPl (dPop 2 (dgTup 2 (dgCons (dgN 3) (dgCons (dgN 4) dgNil)))))
  (dgSeq (dgPl (dSet 5 (dCall sp_fallen (dCons (dVar 4) dNil))))
  (dgSeq (dgIf (dNot (dTru (dVar 5))) (dgYield (dVar 3)) dgNext)
  (tG_sw2 BC))))
abbrev tG_shortest_words (BC : Addr) (Ex : EX) : DGS := (dgSeq (dgPl (dSetO 2 (dLs (dCons (dTup (dCons (dTup dNil) (dCons (dCall (sp_row_to_spell BC) (dCons (dVar 0) (dCons (dVar 1) dNil))) dNil))) dNil))))
  (dgWhile (dTruN 2) (tG_sw1 BC)))
abbrev slG (BC : Addr) (T : Mat) (d : D) (p : Addr) (ws : List D) (x3 x4 x5 x6 : Sl) : List Sl := [.dat (bnd BC T), .dat d, .own p ws, x3, x4, x5, x6]
section
variable {BC : Addr} {T : Mat} {d : D} {f z : List Int} {X : List Addr} {p : Addr} {k : Nat} {x3 x4 x5 x6 : Sl} {DD : DGE} {ws : List PW} {es : List D}
theorem rG_sw2 (ht : Tab T) (hz : Wd T.length z) (hf : f.length ≤ 1000) (hw : ws.length ≤ 100000) (fin : ∀ x6, DD.nx es ⟨X, slG BC T d p ((ws ++ (fall (row T z)).reverse.map (kidW T f z)).map (encW T)) (.dat (tI f)) (.dat (tI (row T z))) (.dat (tI (fall (row T z)))) x6, k⟩) :
    tG_sw2 BC DD es ⟨X, slG BC T d p (ws.map (encW T)) (.dat (tI f)) (.dat (tI (row T z))) (.dat (tI (fall (row T z)))) x6, k⟩ := by
  have hT := ht.hi
  have lr := row_length T z
  have hfl := fall_le (row T z)
  refine ⟨_, rfl, _, rfl, fun j s' => ∃ x6, s' = ⟨X, slG BC T d p ((ws ++ ((fall (row T z)).reverse.take j).map (kidW T f z)).map (encW T)) (.dat (tI f)) (.dat (tI (row T z))) (.dat (tI (fall (row T z)))) x6, k⟩ ∧ True, ⟨x6, by simp, trivial⟩, ?_, ?_⟩
  · rintro j e s' he ⟨y6, rfl, _⟩
    rw [← List.map_reverse, List.getElem?_map] at he
    obtain ⟨a, ha, rfl⟩ := Option.map_eq_some_iff.mp he
    have am := List.mem_reverse.mp (List.mem_of_getElem? ha)
    obtain ⟨h1, h2, h3⟩ := dnW_ok ht hz am
    obtain ⟨_, _, _, _, h4, h5⟩ := fall_dn ht hz am
    have el : (List.map (encW T) (ws ++ List.map (kidW T f z) (List.take j (fall (row T z)).reverse))).length < lim := by
      rw [List.length_map, List.length_append, List.length_map]
      have := List.length_take_le' j (fall (row T z)).reverse
      rw [List.length_reverse] at this
      exact Nat.lt_of_le_of_lt (by omega : _ ≤ 100006) (by decide)
    have ee : List.map (encW T) (ws ++ List.map (kidW T f z) (List.take (j + 1) (fall (row T z)).reverse)) = List.map (encW T) (ws ++ List.map (kidW T f z) (List.take j (fall (row T z)).reverse)) ++ [D.tup [D.tup (f.map D.int ++ [D.int a]), tI (press T (row T z) (ix a))]] := by
      rw [List.take_succ, ha, List.map_append, List.map_append, List.map_append, List.map_append, ← List.append_assoc]
      show _ = _ ++ _ ++ [_]
      congr 1
      show [D.tup [tI (f ++ [a]), tI (row T (dnW T z a))]] = _
      rw [h3]
      unfold tI
      rw [List.map_append]; rfl
    refine ⟨p, _, rfl, _, rfl, f.map D.int, rfl, _, rfl, ?_⟩
    refine ⟨by rw [List.length_append, List.length_map]; exact Nat.le_trans (by show f.length + 1 ≤ 1001; omega) (by decide : 1001 ≤ lim), ?_⟩
    refine ⟨_, rfl, _, rfl, _, rfl, T, row T z, a, rfl, ht, lr, h4, h5, ?_⟩
    refine ⟨by show 2 ≤ lim; decide, el, .dat (.int a), ?_, trivial⟩
    unfold slG
    rw [ee]
    rfl
  · rintro s' ⟨y6, rfl, _⟩
    have e : (((fall (row T z)).map D.int).reverse).length = (fall (row T z)).reverse.length := by rw [List.length_reverse, List.length_map, List.length_reverse]
    rw [e, List.take_length]
    exact fin y6
theorem rG_sw1 (ht : Tab T) (hz : Wd T.length z) (hzl : z.length ≤ 16) (hf : f.length ≤ 1000) (hw : ws.length ≤ 100000) (he : es.length < lim)
    (fin1 : fall (row T z) = [] → ∀ x3 x4 x5 x6, DD.nx (es ++ [tI f]) ⟨X, slG BC T d p (ws.map (encW T)) x3 x4 x5 x6, k⟩)
    (fin2 : fall (row T z) ≠ [] → ∀ x3 x4 x5 x6, DD.nx es ⟨X, slG BC T d p ((ws ++ (fall (row T z)).reverse.map (kidW T f z)).map (encW T)) x3 x4 x5 x6, k⟩) :
    tG_sw1 BC DD es ⟨X, slG BC T d p ((ws ++ [(f, z)]).map (encW T)) x3 x4 x5 x6, k⟩ := by
  have lr := row_length T z
  have hT := ht.hi
  rw [List.map_append]
  refine ⟨p, ws.map (encW T), encW T (f, z), rfl, rfl, ?_⟩
  refine ⟨rfl, ?_⟩
  refine ⟨_, rfl, row T z, rfl, by omega, ?_⟩
  refine ⟨_, rfl, _, rfl, ?_⟩
  by_cases e : fall (row T z) = []
  · have fin1 := fin1 e
    have e2 : (((fall (row T z)).map D.int).isEmpty) = true := by rw [e]; rfl
    rw [e2]
    refine iteT ⟨he, _, rfl, ?_⟩
    refine rG_sw2 ht hz hf hw fun y6 => ?_
    rw [e]
    show DD.nx _ ⟨X, slG BC T d p ((ws ++ []).map (encW T)) _ _ _ _, k⟩
    rw [List.append_nil]
    exact fin1 _ _ _ _
  · have e2 : (((fall (row T z)).map D.int).isEmpty) = false := by
      cases q : fall (row T z) with
      | nil => exact absurd q e
      | cons a l => rfl
    rw [e2]
    refine iteF ?_
    exact rG_sw2 ht hz hf hw fun y6 => fin2 e _ _ _ _
end
theorem rG_shortest_words (BC : Addr) (X : List Addr) (ds : List D) (R : List D → Prop) (E : D → Prop) (h : spG_shortest_words BC ds R E) : tG_shortest_words BC (fun d _ => E d) { nx := fun es _ => R es } [] (St0 false 7 ds X 0) := by
  obtain ⟨T, d, w, rfl, ht, hw, hl, hwd, hb, h⟩ := h
  have lr : w.reverse.length = w.length := List.length_reverse
  refine ⟨by show 0 ≤ lim; decide, ?_⟩
  refine ⟨_, rfl, _, rfl, T, d, w, rfl, ht, hw, hl, hwd, ?_⟩
  refine ⟨by show 2 ≤ lim; decide, by show 1 ≤ lim; decide, fun p hp => ?_⟩
  refine ⟨fun m es s' => ∃ (out : List (List Int)) (ws : List PW) (x3 x4 x5 x6 : Sl), s' = ⟨p :: X, slG BC T d p (ws.map (encW T)) x3 x4 x5 x6, 0⟩ ∧ es = out.map tI ∧ m = mesW ws ∧ out ++ totW T ws = spS T (row T w.reverse) ∧ ∀ q ∈ ws, Wd T.length q.2 ∧ q.1.length + q.2.length ≤ 16, ⟨mesW [([], w.reverse)], [], [([], w.reverse)], .no, .no, .no, .no, rfl, rfl, rfl, ?_, ?_⟩, ?_⟩
  · rw [totW_one]; simp
  · intro q hq
    have := List.mem_singleton.mp hq
    subst this
    exact ⟨rev_ok hwd, by show 0 + w.reverse.length ≤ 16; omega⟩
  rintro m es' s' ⟨out, ws, x3, x4, x5, x6, rfl, rfl, rfl, e, hq⟩
  have l1 : out.length + (totW T ws).length ≤ 100000 := by rw [← List.length_append, e]; exact hb
  have l2 := totW_len T ws
  refine ⟨ws.map (encW T), rfl, ?_⟩
  rcases List.eq_nil_or_concat ws with rfl | ⟨vs, q, ev⟩
  · refine iteF ?_
    have : out = spS T (row T w.reverse) := by rw [← e]; exact (List.append_nil out).symm
    rw [this]
    exact h
  · obtain ⟨f, z⟩ := q
    rw [List.concat_eq_append] at ev
    subst ev
    obtain ⟨wz, lz⟩ := hq (f, z) (by simp)
    have wz : Wd T.length z := wz
    have lz : f.length + z.length ≤ 16 := lz
    have ne : (!((vs ++ [(f, z)]).map (encW T)).isEmpty) = true := by
      rw [List.map_append]
      cases vs <;> rfl
    have lv : vs.length ≤ 100000 := by
      rw [List.length_append] at l2
      omega
    rw [totW_app] at e
    rw [ne]
    refine iteT ?_
    refine rG_sw1 ht wz (by omega) (by omega) lv (by rw [List.length_map]; exact Nat.lt_of_le_of_lt (by omega : _ ≤ 100000) (by decide)) (fun e0 y3 y4 y5 y6 => ?_) (fun e0 y3 y4 y5 y6 => ?_)
    · rw [totW_end ht wz (by omega) e0] at e
      refine ⟨mesW vs, ?_, out ++ [f], vs, y3, y4, y5, y6, rfl, by rw [List.map_append]; rfl, rfl, by rw [List.append_assoc]; exact e, fun q h => hq q (List.mem_append_left _ h)⟩
      rw [mesW_app]
      have : 0 < mesW [(f, z)] := by unfold mesW; simp [Nat.pow_pos]
      omega
    · refine ⟨mesW (vs ++ (fall (row T z)).reverse.map (kidW T f z)), ?_, out, _, y3, y4, y5, y6, rfl, rfl, rfl, by rw [totW_app, totW_kids ht wz (by omega) e0]; exact e, fun q h => ?_⟩
      · rw [mesW_app, mesW_app]
        have := mesW_kids ht (f := f) wz
        omega
      · rcases List.mem_append.mp h with h | h
        · exact hq q (List.mem_append_left _ h)
        · obtain ⟨a, ha, rfl⟩ := List.mem_map.mp h
          obtain ⟨h1, h2, _⟩ := dnW_ok ht wz (List.mem_reverse.mp ha)
          refine ⟨h1, ?_⟩
          show (f ++ [a]).length + (dnW T z a).length ≤ 16
          rw [List.length_append, List.length_singleton]
          omega
end BW
set_option maxHeartbeats 1000000
namespace BW
open PySem L2 DL
theorem okE_selfE {d : D} (h : d.okE = true) : PyData.eqv d.py d.py = true := SeqAt.eqv_refl _ (SeqAt.canLay_of_shaped (Bool.and_eq_true_iff.mp h).2)
theorem neS {d : D} (h : d.okE = true) {Q : D → Prop} (q : Q (.bl false)) : oNe d d Q := by
  have e := okE_selfE h
  cases d <;> first
    | exact ⟨h, h, by rw [e]; exact q⟩
    | (show Q (.bl (!decide _)); rw [decide_eq_true rfl]; exact q)
section
variable {BC : Addr} {T : Mat} {u v : List Int} {X : List Addr} {k : Nat} {x3 : Sl} {DD : DEnds}
theorem okB (b : Bool) : (D.bl b).okE = true := rfl
end
end BW
namespace DL
open PySem PySem.Spec PyProof.Rows L2
end DL
set_option maxHeartbeats 1000000
set_option maxHeartbeats 1000000
namespace BW
open PySem L2 DL
theorem cnF_bdT {T : Mat} : ∀ (n : Nat) {r : List Int}, r.length = T.length → 1 ≤ T.length → 0 ≤ cnF T n r ∧ cnF T n r ≤ ((T.length ^ n : Nat) : Int)
  | 0, r, _, _ => ⟨by show (0 : Int) ≤ 1; decide, by show (1 : Int) ≤ ((T.length ^ 0 : Nat) : Int); rw [Nat.pow_zero]; decide⟩
  | n + 1, r, hr, lo => by
    show 0 ≤ (if fall r = [] then 1 else ((fall r).map fun a => cnF T n (press T r (ix a))).sum) ∧ (if fall r = [] then 1 else ((fall r).map fun a => cnF T n (press T r (ix a))).sum) ≤ ((T.length ^ (n + 1) : Nat) : Int)
    have p1 : 1 ≤ T.length ^ (n + 1) := Nat.one_le_pow _ _ lo
    by_cases e : fall r = []
    · rw [if_pos e]
      exact ⟨by decide, by omega⟩
    · rw [if_neg e]
      have b := sum_bd (B := ((T.length ^ n : Nat) : Int)) (l := (fall r).map fun a => cnF T n (press T r (ix a))) fun x hx => by
        obtain ⟨a, _, rfl⟩ := List.mem_map.mp hx
        exact cnF_bdT n (press_length T r (ix a)) lo
      have lf : (fall r).length ≤ T.length := by have := fall_length r; omega
      rw [List.length_map] at b
      refine ⟨b.1, Int.le_trans b.2 ?_⟩
      rw [Nat.pow_succ]
      have : T.length ^ n * (fall r).length ≤ T.length ^ n * T.length := Nat.mul_le_mul_left _ lf
      exact_mod_cast this
theorem sp48_len {T : Mat} (ht : Tab T) (h4 : T.length ≤ 4) {w : List Int} (hw : Wd T.length w) (hl : w.length ≤ 8) : (spS T (row T w.reverse)).length ≤ 100000 := by
  have e : cn T (row T w.reverse) = cnF T 8 (row T w.reverse) := cn_stable ht 8 (rev_ok hw) (by rw [List.length_reverse]; exact hl) 61 (by decide)
  have b := (cnF_bdT (T := T) 8 (row_length T w.reverse) ht.lo).2
  have c := cn_len T (row T w.reverse)
  have p : T.length ^ 8 ≤ 4 ^ 8 := Nat.pow_le_pow_left h4 8
  have e8 : (4 : Nat) ^ 8 = 65536 := by decide
  omega
theorem sp_nonempty {T : Mat} (ht : Tab T) {w : List Int} (hw : Wd T.length w) (hl : w.length ≤ 60) : spS T (row T w.reverse) ≠ [] := by
  obtain ⟨k, hk, h2⟩ := LN.has (rev_ok hw)
  rw [List.length_reverse] at h2
  have := spS_head ht k (f := 60) (rev_ok hw) (by rw [List.length_reverse]; exact hl) hk (by omega)
  intro z
  rw [z] at this
  cases this
theorem sp_unL {T : Mat} (ht : Tab T) {w u : List Int} (hw : Wd T.length w) (hl : w.length ≤ 8) (hu : u ∈ spS T (row T w.reverse)) : Wd T.length u ∧ u.length ≤ 11 ∧ unL T u = unL T (lw T w) := by
  have s := spS_spl ht w.length (wd_rev hw) (by rw [List.length_reverse]; exact Nat.le_refl _) (by omega) u hu
  have ln := s.ln.rev ht (wd_rev hw)
  rw [List.reverse_reverse] at ln
  have lu : u.length ≤ 11 := by
    obtain ⟨k, hk, h2⟩ := LN.has hw
    have := hk.uniq ln
    omega
  have er := spl_row ht hw s
  have l2 : Sh T u := ln.cong hw s.wd er.symm
  obtain ⟨a1, a2, a3, a4⟩ := lw_row2 ht hw (by omega)
  exact ⟨s.wd, lu, unL_any ht s.wd a2 l2 a4 (er.trans a1.symm)⟩
theorem lw8 {T : Mat} (ht : Tab T) {w : List Int} (hw : Wd T.length w) (hl : w.length ≤ 8) : (lw T w).length ≤ 11 := by
  obtain ⟨_, _, h, _⟩ := lw_row2 ht hw (by omega)
  omega
abbrev t_a43 : DS := (dSet 3 (dCallM 1 sp__law_tableS (dCons (dOp oAdd (dC (.int 1)) (dCallM 1 sp__law_draw (dCons (dC (.int 4)) dNil))) (dCons (dFr (dLs (dCons (dC (.int 2)) (dCons (dC (.int 2)) (dCons (dC (.int 3)) (dCons (dC (.int 3)) (dCons (dC (.int 4)) (dCons (dC (.int 6)) (dCons (dC (.int 0)) dNil))))))))) dNil))))
abbrev t_b43 (BC : Addr) : DS := (dPar2 4 5 (dxD (dCall (sp_Bonds BC) (dCons (dVar 3) dNil)) (dxD (dLenN 3) dxN)))
abbrev t_c43 : DS := (dSet 6 (dCallM 1 sp__law_wordL (dCons (dVar 5) (dCons (dC (.int 8)) dNil))))
abbrev t_d43 (BC : Addr) : DS := (dSet 7 (dListG0 (spG_shortest_words BC) (dCons (dVar 4) (dCons (dVar 6) dNil))))
abbrev t_e43 : DS := (dSet 8 (dCall sp__law_under (dCons (dVar 3) (dCons (dVar 6) dNil))))
abbrev t_f43 : DS := (dFor (iR1 (dMin2 (dC (.int 12)) (dLenN 7))) (dgN 9) (dIfS (dTB (dOp oNe (dCall sp__law_rows_by (dCons (dVar 3) (dCons (dIxN 7 (dCallM 1 sp__law_draw (dCons (dLenN 7) dNil))) dNil))) (dVar 8))) (dRet (dC (.bl false))) dNext))
abbrev t_g43 (BC : Addr) : DS := (dIfS (dTB (dOp oNe (dCall (sp_count_below BC) (dCons (dVar 4) (dCons (dVar 6) dNil))) (dLenN 8))) (dRet (dC (.bl false))) dNext)
abbrev t_h43 : DS := (dSet 10 (dCallM 1 sp__law_wordL (dCons (dVar 5) (dCons (dC (.int 7)) dNil))))
abbrev t_i43 (BC : Addr) : DS := (dSet 11 (dCall (sp_is_below BC) (dCons (dVar 4) (dCons (dVar 10) (dCons (dVar 6) dNil)))))
abbrev t_j43 (BC : Addr) : DS := (dIfS (dTB (dOp oNe (dCall (sp_is_below BC) (dCons (dVar 4) (dCons (dRev (dVar 10)) (dCons (dRev (dVar 6)) dNil)))) (dVar 11))) (dRet (dC (.bl false))) dNext)
abbrev t_k43 (BC : Addr) : DS := (dFor (iTp (dCall (sp_lasts BC) (dCons (dVar 4) (dCons (dVar 6) dNil)))) (dgN 12) (dSeq (dSet 13 (dIf (dTB (dOp oIn (dVar 12) (dCall (sp_lasts BC) (dCons (dVar 4) (dCons (dVar 10) dNil))))) (dOp oAdd (dVar 10) (dFr (dLs (dCons (dVar 12) dNil)))) (dVar 10)))
  (dIfS (dTB (dOp oNe (dCall (sp_is_below BC) (dCons (dVar 4) (dCons (dVar 13) (dCons (dOp oAdd (dVar 6) (dFr (dLs (dCons (dVar 12) dNil)))) dNil)))) (dVar 11))) (dRet (dC (.bl false))) dNext)))
abbrev t_l43 : DS := (dRet (dC (.bl true)))
abbrev t_law43 (BC : Addr) (K : PySem.W.Frag) : DS := (dSeq (dFor (iR1 (dC (.int 3))) (dgN 2) (dSeq t_a43
  (dSeq (t_b43 BC)
  (dSeq t_c43
  (dSeq (t_d43 BC)
  (dSeq t_e43
  (dSeq t_f43
  (dSeq (t_g43 BC)
  (dSeq t_h43
  (dSeq (t_i43 BC)
  (dSeq (t_j43 BC)
  (t_k43 BC))))))))))))
  t_l43)
abbrev sl43 (x2 x3 x4 x5 x6 x7 x8 x9 x10 x11 x12 x13 : Sl) : List Sl := [.no, .mst, x2, x3, x4, x5, x6, x7, x8, x9, x10, x11, x12, x13]
abbrev sw43 (BC : Addr) (T : Mat) (w : List Int) (x2 x9 x10 x11 x12 x13 : Sl) : List Sl := sl43 x2 (.dat (lM T)) (.dat (bnd BC T)) (.dat (.int T.length)) (.dat (lI w)) (.dat (tIs (spS T (row T w.reverse)))) (.dat (tIs (unL T (lw T w)))) x9 x10 x11 x12 x13
section
variable {BC : Addr} {DD : DEnds} {T : Mat} {w o : List Int} {X : List Addr} {k : Nat} {x2 x3 x4 x5 x6 x7 x8 x9 x10 x11 x12 x13 : Sl}
theorem r_a43 (hk : k < 70000000000) (fin : ∀ (T : Mat) (k' : Nat), Tab T → T.length ≤ 4 → k ≤ k' → k' ≤ k + 100 → DD.nx ⟨X, sl43 x2 (.dat (lM T)) x4 x5 x6 x7 x8 x9 x10 x11 x12 x13, k'⟩) : t_a43 DD ⟨X, sl43 x2 x3 x4 x5 x6 x7 x8 x9 x10 x11 x12 x13, k⟩ := by
  refine ⟨rfl, rfl, 4, rfl, by decide, by decide, by show k < _; omega, fun z z0 z1 => ?_⟩
  obtain ⟨n, hn, n1, n6⟩ : ∃ n : Nat, 1 + z = (n : Int) ∧ 1 ≤ n ∧ n ≤ 4 := ⟨(1 + z).toNat, by omega, by omega, by omega⟩
  refine ⟨by show 7 ≤ lim; decide, n, [2, 2, 3, 3, 4, 6, 0], by rw [hn]; rfl, n1, by omega, by simp, by decide, ?_, by show k + 1 < _; omega, fun T k' ht hT a b => fin T k' ht (by omega) (Nat.le_trans (Nat.le_succ k) a) (Nat.le_trans b (by show k + 1 + 40 ≤ _; omega))⟩
  intro z hz
  simp only [List.mem_cons, List.not_mem_nil, or_false] at hz
  rcases hz with rfl | rfl | rfl | rfl | rfl | rfl | rfl <;> decide
theorem r_b43 (ht : Tab T) (fin : DD.nx ⟨X, sl43 x2 (.dat (lM T)) (.dat (bnd BC T)) (.dat (.int T.length)) x6 x7 x8 x9 x10 x11 x12 x13, k⟩) : t_b43 BC DD ⟨X, sl43 x2 (.dat (lM T)) x4 x5 x6 x7 x8 x9 x10 x11 x12 x13, k⟩ := by
  have lt : (T.map lI).length = T.length := List.length_map ..
  refine ⟨_, rfl, T, rfl, ht, _, rfl, ?_⟩
  show DD.nx ⟨X, sl43 x2 (.dat (lM T)) (.dat (bnd BC T)) (.dat (.int ((T.map lI).length : Nat))) x6 x7 x8 x9 x10 x11 x12 x13, k⟩
  rw [lt]
  exact fin
theorem r_c43 (ht : Tab T) (hk : k < 70000000000) (fin : ∀ (w : List Int) (k' : Nat), Wd T.length w → w.length ≤ 8 → k ≤ k' → k' ≤ k + 200 → DD.nx ⟨X, sl43 x2 x3 x4 (.dat (.int T.length)) (.dat (lI w)) x7 x8 x9 x10 x11 x12 x13, k'⟩) : t_c43 DD ⟨X, sl43 x2 x3 x4 (.dat (.int T.length)) x6 x7 x8 x9 x10 x11 x12 x13, k⟩ :=
  ⟨rfl, _, rfl, T.length, 8, rfl, ht.lo, ht.hi, by decide, by decide, by show k < _; omega, fun w k' hw hl a b => fin w k' hw (by omega) a b⟩
theorem r_d43 (ht : Tab T) (h4 : T.length ≤ 4) (hw : Wd T.length w) (hl : w.length ≤ 8) (fin : DD.nx ⟨X, sl43 x2 x3 (.dat (bnd BC T)) x5 (.dat (lI w)) (.dat (tIs (spS T (row T w.reverse)))) x8 x9 x10 x11 x12 x13, k⟩) : t_d43 BC DD ⟨X, sl43 x2 x3 (.dat (bnd BC T)) x5 (.dat (lI w)) x7 x8 x9 x10 x11 x12 x13, k⟩ :=
  ⟨_, rfl, _, rfl, T, lI w, w, rfl, ht, .inl rfl, by omega, hw, sp48_len ht h4 hw hl, fin⟩
theorem r_e43 (ht : Tab T) (hw : Wd T.length w) (hl : w.length ≤ 8) (fin : DD.nx ⟨X, sl43 x2 (.dat (lM T)) x4 x5 (.dat (lI w)) x7 (.dat (tIs (unL T (lw T w)))) x9 x10 x11 x12 x13, k⟩) : t_e43 DD ⟨X, sl43 x2 (.dat (lM T)) x4 x5 (.dat (lI w)) x7 x8 x9 x10 x11 x12 x13, k⟩ :=
  ⟨_, rfl, _, rfl, T, lI w, w, rfl, ht, .inl rfl, by omega, hw, lw8 ht hw hl, fin⟩
theorem r_f43 (ht : Tab T) (hw : Wd T.length w) (hl : w.length ≤ 8) (h4 : T.length ≤ 4) (hk : k < 70000000000) (fin : ∀ x9 k', k ≤ k' → k' ≤ k + 12 → DD.nx ⟨X, sw43 BC T w x2 x9 x10 x11 x12 x13, k'⟩) : t_f43 DD ⟨X, sw43 BC T w x2 x9 x10 x11 x12 x13, k⟩ := by
  have lm : ((spS T (row T w.reverse)).map tI).length = (spS T (row T w.reverse)).length := List.length_map ..
  have ne := sp_nonempty ht hw (by omega)
  have pos := List.length_pos_iff.mpr ne
  have few := sp48_len ht h4 hw hl
  refine ⟨_, rfl, 12, _, rfl, rfl, _, rfl, by split <;> omega, by split <;> omega, fun i s' => i ≤ 12 ∧ ∃ x9 k', s' = ⟨X, sw43 BC T w x2 x9 x10 x11 x12 x13, k'⟩ ∧ k ≤ k' ∧ k' ≤ k + i, ⟨by decide, x9, k, rfl, Nat.le_refl _, Nat.le_refl _⟩, ?_, ?_⟩
  · rintro i d s' hd ⟨hi, y9, k', rfl, a, b⟩
    obtain ⟨hi, rfl⟩ := rngD_at hd
    have hi : i < 12 := by revert hi; split <;> omega
    refine ⟨_, rfl, _, rfl, rfl, _, rfl, _, rfl, by rw [lm]; omega, by rw [lm]; omega, by show k' < _; omega, fun z z0 z1 => ?_⟩
    rw [lm] at z1
    obtain ⟨j, rfl⟩ : ∃ j : Nat, z = (j : Int) := ⟨z.toNat, by omega⟩
    have jl : j < (spS T (row T w.reverse)).length := by omega
    obtain ⟨u, hu⟩ : ∃ u, (spS T (row T w.reverse))[j]? = some u := ⟨_, List.getElem?_eq_getElem jl⟩
    obtain ⟨u1, u2, u3⟩ := sp_unL ht hw hl (List.mem_of_getElem? hu)
    refine ⟨_, tI u, rfl, atI_nat (by rw [List.getElem?_map, hu]; rfl), T, u, rfl, ht, u1, u2, ?_⟩
    rw [u3]
    refine ⟨_, rfl, neS (d := tIs (unL T (lw T w))) (unL_okE _) ?_⟩
    exact ⟨_, rfl, iteF ⟨by omega, _, k' + 1, rfl, by omega, by omega⟩⟩
  · rintro s' ⟨hi, y9, k', rfl, a, b⟩
    exact fin y9 k' a (by omega)
theorem r_g43 (ht : Tab T) (hw : Wd T.length w) (hl : w.length ≤ 8) (fin : DD.nx ⟨X, sw43 BC T w x2 x9 x10 x11 x12 x13, k⟩) : t_g43 BC DD ⟨X, sw43 BC T w x2 x9 x10 x11 x12 x13, k⟩ := by
  have lm : ((unL T (lw T w)).map tI).length = (unL T (lw T w)).length := List.length_map ..
  refine ⟨_, rfl, _, rfl, T, lI w, w, rfl, ht, .inl rfl, by omega, hw, lw8 ht hw hl, _, rfl, ?_⟩
  rw [lm]
  exact neS (okI _) ⟨_, rfl, iteF fin⟩
theorem r_h43 (ht : Tab T) (hk : k < 70000000000) (fin : ∀ (o : List Int) (k' : Nat), Wd T.length o → o.length ≤ 7 → k ≤ k' → k' ≤ k + 200 → DD.nx ⟨X, sw43 BC T w x2 x9 (.dat (lI o)) x11 x12 x13, k'⟩) : t_h43 DD ⟨X, sw43 BC T w x2 x9 x10 x11 x12 x13, k⟩ :=
  ⟨rfl, _, rfl, T.length, 7, rfl, ht.lo, ht.hi, by decide, by decide, by show k < _; omega, fun w k' hw hl a b => fin w k' hw (by omega) a b⟩
theorem r_i43 (ht : Tab T) (hw : Wd T.length w) (hl : w.length ≤ 8) (ho : Wd T.length o) (lo : o.length ≤ 7) (fin : DD.nx ⟨X, sw43 BC T w x2 x9 (.dat (lI o)) (.dat (.bl (ub T o w))) x12 x13, k⟩) : t_i43 BC DD ⟨X, sw43 BC T w x2 x9 (.dat (lI o)) x11 x12 x13, k⟩ :=
  ⟨_, rfl, _, rfl, _, rfl, T, lI o, lI w, o, w, rfl, ht, .inl rfl, .inl rfl, by omega, by omega, ho, hw, fin⟩
theorem r_j43 (ht : Tab T) (hw : Wd T.length w) (hl : w.length ≤ 8) (ho : Wd T.length o) (lo : o.length ≤ 7) (fin : DD.nx ⟨X, sw43 BC T w x2 x9 (.dat (lI o)) (.dat (.bl (ub T o w))) x12 x13, k⟩) : t_j43 BC DD ⟨X, sw43 BC T w x2 x9 (.dat (lI o)) (.dat (.bl (ub T o w))) x12 x13, k⟩ := by
  refine ⟨_, rfl, _, rfl, _, rfl, T, lI o.reverse, lI w.reverse, o.reverse, w.reverse, ?_, ht, .inl rfl, .inl rfl, by rw [List.length_reverse]; omega, by rw [List.length_reverse]; omega, rev_ok ho, rev_ok hw, _, rfl, ?_⟩
  · show [bnd BC T, D.lst (o.map D.int).reverse, D.lst (w.map D.int).reverse] = _
    rw [← List.map_reverse, ← List.map_reverse]
  · have e : decide ((kpt T o.reverse w.reverse).1 = one T) = ub T o w := ub_rev ht ho hw (by omega)
    rw [e]
    exact neS (okB _) ⟨_, rfl, iteF fin⟩
theorem r_k43 (ht : Tab T) (hw : Wd T.length w) (hl : w.length ≤ 8) (ho : Wd T.length o) (lo : o.length ≤ 7) (fin : ∀ x12 x13, DD.nx ⟨X, sw43 BC T w x2 x9 (.dat (lI o)) (.dat (.bl (ub T o w))) x12 x13, k⟩) : t_k43 BC DD ⟨X, sw43 BC T w x2 x9 (.dat (lI o)) (.dat (.bl (ub T o w))) x12 x13, k⟩ := by
  refine ⟨_, rfl, _, rfl, T, lI w, w, rfl, ht, .inl rfl, by omega, hw, _, rfl, fun i s' => ∃ x12 x13, s' = ⟨X, sw43 BC T w x2 x9 (.dat (lI o)) (.dat (.bl (ub T o w))) x12 x13, k⟩, ⟨x12, x13, rfl⟩, ?_, ?_⟩
  · rintro i e s' he ⟨y12, y13, rfl⟩
    rw [List.getElem?_map] at he
    obtain ⟨a, ha, rfl⟩ := Option.map_eq_some_iff.mp he
    have ha := List.mem_of_getElem? ha
    obtain ⟨_, _, _, _, a1, a2⟩ := fall_dn ht hw ha
    have wa : Wd T.length [a] := fun b hb => by rw [List.mem_singleton.mp hb]; exact ⟨a1, a2⟩
    have lmo : (o.map D.int).length = o.length := List.length_map ..
    have lmw : (w.map D.int).length = w.length := List.length_map ..
    have go : ∀ o2 : List Int, o2 = lessW T o a → o2.length ≤ 8 → Wd T.length o2 → (dIfS (dTB (dOp oNe (dCall (sp_is_below BC) (dCons (dVar 4) (dCons (dVar 13) (dCons (dOp oAdd (dVar 6) (dFr (dLs (dCons (dVar 12) dNil)))) dNil)))) (dVar 11))) (dRet (dC (.bl false))) dNext) { DD with nx := fun s' => ∃ x12 x13, s' = ⟨X, sw43 BC T w x2 x9 (.dat (lI o)) (.dat (.bl (ub T o w))) x12 x13, k⟩ } ⟨X, sw43 BC T w x2 x9 (.dat (lI o)) (.dat (.bl (ub T o w))) (.dat (.int a)) (.dat (lI o2)), k⟩ := fun o2 e2 l2 w2 => by
      refine ⟨_, rfl, _, rfl, _, rfl, _, rfl, by show 1 ≤ lim; decide, l10k (by rw [lmw]; show w.length + 1 ≤ _; omega), T, lI o2, lI (w ++ [a]), o2, w ++ [a], by unfold lI; rw [List.map_append]; rfl, ht, .inl rfl, .inl rfl, by omega, by rw [List.length_append]; show w.length + 1 ≤ _; omega, w2, wd_app hw wa, _, rfl, ?_⟩
      have e : decide ((kpt T o2 (w ++ [a])).1 = one T) = ub T o w := by rw [e2]; exact ub_lift ht ho hw (by omega) ha
      rw [e]
      exact neS (okB _) ⟨_, rfl, iteF ⟨_, _, rfl⟩⟩
    refine ⟨_, rfl, _, rfl, _, rfl, T, lI o, o, rfl, ht, .inl rfl, by omega, ho, rfl, _, rfl, flat_ints _, _, rfl, ?_⟩
    rw [inV_mem]
    by_cases c : a ∈ fall (row T o)
    · rw [decide_eq_true c]
      refine iteT ⟨_, rfl, _, rfl, by show 1 ≤ lim; decide, l10k (by rw [lmo]; show o.length + 1 ≤ _; omega), ?_⟩
      have g := go (o ++ [a]) (by unfold lessW; rw [if_pos c]) (by rw [List.length_append]; show o.length + 1 ≤ _; omega) (wd_app ho wa)
      unfold lI at g
      rw [List.map_append] at g
      exact g
    · rw [decide_eq_false c]
      exact iteF ⟨_, rfl, go o (by unfold lessW; rw [if_neg c]) (by omega) ho⟩
  · rintro s' ⟨y12, y13, rfl⟩
    exact fin y12 y13
end
theorem r_law43 (BC : Addr) (K : PySem.W.Frag) (DD : DEnds) (hrt : ∀ k, DD.rt (.bl true) k) : t_law43 BC K DD ⟨[], [.no, .mst, .no, .no, .no, .no, .no, .no, .no, .no, .no, .no, .no, .no], 0⟩ := by
  refine ⟨3, rfl, by decide, by decide, fun i s' => ∃ (X : List Addr) (x2 x3 x4 x5 x6 x7 x8 x9 x10 x11 x12 x13 : Sl) (k : Nat), s' = ⟨X, sl43 x2 x3 x4 x5 x6 x7 x8 x9 x10 x11 x12 x13, k⟩ ∧ k ≤ 1000 * i, ⟨_, _, _, _, _, _, _, _, _, _, _, _, _, 0, rfl, by omega⟩, ?_, ?_⟩
  · rintro i d s' hd ⟨X, x2, x3, x4, x5, x6, x7, x8, x9, x10, x11, x12, x13, k, rfl, hk⟩
    obtain ⟨hi, rfl⟩ := rngD_at hd
    have hi : i < 3 := hi
    refine r_a43 (k := k) (by omega) fun T k1 ht h4 a1 b1 => r_b43 ht (r_c43 ht (by omega) fun w k2 hw hl a2 b2 => r_d43 ht h4 hw hl (r_e43 ht hw hl (r_f43 ht hw hl h4 (by omega) fun y9 k3 a3 b3 => r_g43 ht hw hl (r_h43 ht (by omega) fun o k4 ho lo a4 b4 => r_i43 ht hw hl ho lo (r_j43 ht hw hl ho lo (r_k43 ht hw hl ho lo fun y12 y13 => ?_))))))
    exact ⟨X, _, _, _, _, _, _, _, _, _, _, _, _, k4, rfl, by omega⟩
  · rintro s' ⟨X, x2, x3, x4, x5, x6, x7, x8, x9, x10, x11, x12, x13, k, rfl, hk⟩ X'
    exact hrt _
end BW
namespace BW
open PySem L2 DL
theorem pd_globE {X : Cx} {c : C} {x : PySem.Str} {pos : Pos} {i : Int} (h : ∃ t, X.mg x = some (.int i t)) (hg : Gl X x := by rfl) (hd : (x == ("__debug__" : PySem.Str)) = false := by decide) : PE X (.Name x pos) (LE c (dC (.int i))) := by
  obtain ⟨t, h⟩ := h
  exact pd_globI h hg hd
abbrev s_is_whole : Stmt := top 14
theorem sc_is_whole : FnScope ["value"] ["value"] (defScope s_is_whole) := ⟨rfl, rfl, rfl, by decide +kernel, rfl, by decide +kernel, by decide +kernel⟩
theorem w_is_whole {P : Program} {w : World} {K : PySem.W.Frag} {mg : PySem.Str → Option Value} {base : Heap} (g_isinstance : mg "isinstance" = none) (g_int : mg "int" = none) (g_bool : mg "bool" = none) (qual : PySem.Str) (f : Addr) (cdv : Value) (A : Around) (outer : List Env) (s : Shared) (H : Hp) (E : XK) (M : Option Mc) (X0 : List Addr)
    (hr : Room 0 (A.deeper (PyProof.Rows.envOfC qual (defScope s_is_whole) s.heap.objs.size f cdv))) :
    PSs (cxOf CX0 P w K mg base ["value"] qual (defScope s_is_whole) f cdv A outer s H E).nox (defBody s_is_whole) (LS ⟨K, M, X0, H, []⟩ t_is_whole) :=
  (psd_one (psd_ret (pd_andV (pd_isi rfl g_isinstance g_int PyProof.Rows.boot_int (pd_var 0)) (pd_one (pd_notV (pd_isi rfl g_isinstance g_bool PyProof.Rows.boot_bool (pd_var 0)))))))
abbrev s_is_letter : Stmt := top 15
theorem sc_is_letter : FnScope ["value", "many"] ["value", "many"] (defScope s_is_letter) := ⟨rfl, rfl, rfl, by decide +kernel, rfl, by decide +kernel, by decide +kernel⟩
theorem w_is_letter {P : Program} {w : World} {K : PySem.W.Frag} {mg : PySem.Str → Option Value} {base : Heap} (c_is_whole : CalD P w K mg base 1 "is_whole" false sp_is_whole) (qual : PySem.Str) (f : Addr) (cdv : Value) (A : Around) (outer : List Env) (s : Shared) (H : Hp) (E : XK) (M : Option Mc) (X0 : List Addr)
    (hr : Room 1 (A.deeper (PyProof.Rows.envOfC qual (defScope s_is_letter) s.heap.objs.size f cdv))) :
    PSs (cxOf CX0 P w K mg base ["value", "many"] qual (defScope s_is_letter) f cdv A outer s H E).nox (defBody s_is_letter) (LS ⟨K, M, X0, H, []⟩ t_is_letter) :=
  (psd_one (psd_ret (pd_andV (pd_call rfl c_is_whole hr (by decide) (pad_cons (pd_var 0) pad_nil)) (pd_one (pd_chain op_le fit_le op_le fit_le pd_int (pd_var 0) (pd_var 1))))))
abbrev s_can_stand : Stmt := top 17
theorem sc_can_stand : FnScope ["rows", "one", "other", "item"] ["rows", "one", "other"] (defScope s_can_stand) := ⟨rfl, rfl, rfl, by decide +kernel, rfl, by decide +kernel, by decide +kernel⟩
theorem w_can_stand {P : Program} {w : World} {K : PySem.W.Frag} {mg : PySem.Str → Option Value} {base : Heap} (g_OWN_BOND : ∃ t, mg "OWN_BOND" = some (.int (1) t)) (g_WEIGHTS : KdAt P w K mg "WEIGHTS" kd_WEIGHTS) (c_is_whole : CalD P w K mg base 1 "is_whole" false sp_is_whole) (qual : PySem.Str) (f : Addr) (cdv : Value) (A : Around) (outer : List Env) (s : Shared) (H : Hp) (E : XK) (M : Option Mc) (X0 : List Addr)
    (hr : Room 1 (A.deeper (PyProof.Rows.envOfC qual (defScope s_can_stand) s.heap.objs.size f cdv))) :
    PSs (cxOf CX0 P w K mg base ["rows", "one", "other", "item"] qual (defScope s_can_stand) f cdv A outer s H E).nox (defBody s_can_stand) (LS ⟨K, M, X0, H, []⟩ t_can_stand) :=
  (psd_cons (psd_set 3 sc_can_stand.nd (pd_ix rfl (pd_ixN rfl 0 (pd_sub (pd_var 1) pd_int)) (pd_sub (pd_var 2) pd_int)))
  (psd_cons (psd_if (ptd_not (pt_tru rfl (pd_call rfl c_is_whole hr (by decide) (pad_cons (pd_var 3) pad_nil)))) (psd_one (psd_ret pd_bl)) psd_nil)
  (psd_cons (psd_if (ptd_cmp (OpR.or op_eq (op_eqD hr.units)) (fit_eq rfl) (pd_var 1) (pd_var 2)) (psd_one (psd_ret (pd_cmp (OpR.or op_eq (op_eqD hr.units)) (fit_eq rfl) (pd_var 3) (pd_globE g_OWN_BOND)))) psd_nil)
  (psd_cons (psd_if (ptd_cmp op_lt fit_lt (pd_var 1) (pd_var 2)) (psd_one (psd_ret (pd_inkd g_WEIGHTS (pd_var 3)))) psd_nil)
  (psd_one (psd_ret (pd_cmp (OpR.or op_eq (op_eqD hr.units)) (fit_eq rfl) (pd_var 3) (pd_ix rfl (pd_ixN rfl 0 (pd_sub (pd_var 2) pd_int)) (pd_sub (pd_var 1) pd_int)))))))))
abbrev s_check_shape : Stmt := top 18
theorem sc_check_shape : FnScope ["rows", "row"] ["rows"] (defScope s_check_shape) := ⟨rfl, rfl, rfl, by decide +kernel, rfl, by decide +kernel, by decide +kernel⟩
theorem w_check_shape {P : Program} {w : World} {K : PySem.W.Frag} {mg : PySem.Str → Option Value} {base : Heap} (g_isinstance : mg "isinstance" = none) (g_list : mg "list" = none) (g_tuple : mg "tuple" = none) (g_len : mg "len" = none) (g_MOST_LETTERS : ∃ t, mg "MOST_LETTERS" = some (.int (6) t)) (qual : PySem.Str) (f : Addr) (cdv : Value) (A : Around) (outer : List Env) (s : Shared) (H : Hp) (E : XK) (M : Option Mc) (X0 : List Addr)
    (hr : Room 0 (A.deeper (PyProof.Rows.envOfC qual (defScope s_check_shape) s.heap.objs.size f cdv))) :
    PSs (cxOf CX0 P w K mg base ["rows", "row"] qual (defScope s_check_shape) f cdv A outer s H E).nox (defBody s_check_shape) (LS ⟨K, M, X0, H, []⟩ t_check_shape) :=
  (psd_cons (psd_if (PW.pt (pwd_or (ptd_not (pt_tru rfl (pd_isi2 rfl g_isinstance g_list g_tuple PyProof.Rows.boot_list PyProof.Rows.boot_tuple (pd_var 0)))) (pwd_or1 (ptd_cmp (OpR.or op_eq (op_eqD hr.units)) (fit_eq rfl) (pd_lenN rfl g_len 0) pd_int)))) (psd_one psd_never) psd_nil)
  (psd_cons (psd_if (ptd_cmp op_gt fit_gt (pd_lenN rfl g_len 0) (pd_globE g_MOST_LETTERS)) (psd_one psd_never) psd_nil)
  (psd_one (psd_for PassesOwn.never rfl (pid_list rfl (pd_var 0)) (pgd_name 1 sc_check_shape.nd) (psd_one (psd_if (PW.pt (pwd_or (ptd_not (pt_tru rfl (pd_isi2 rfl g_isinstance g_list g_tuple PyProof.Rows.boot_list PyProof.Rows.boot_tuple (pd_var 1)))) (pwd_or1 (ptd_cmp (OpR.or op_ne (op_neD hr.units)) (fit_ne rfl) (pd_lenN rfl g_len 1) (pd_lenN rfl g_len 0))))) (psd_one psd_never) psd_nil))))))
abbrev s_check_table : Stmt := top 19
theorem sc_check_table : FnScope ["rows", "letters", "one", "other"] ["rows"] (defScope s_check_table) := ⟨rfl, rfl, rfl, by decide +kernel, rfl, by decide +kernel, by decide +kernel⟩
theorem w_check_table {P : Program} {w : World} {K : PySem.W.Frag} {mg : PySem.Str → Option Value} {base : Heap} (g_list : mg "list" = none) (g_range : mg "range" = none) (g_len : mg "len" = none) (c_check_shape : CalD P w K mg base 1 "check_shape" false sp_check_shape) (c_can_stand : CalD P w K mg base 2 "can_stand" false sp_can_stand) (qual : PySem.Str) (f : Addr) (cdv : Value) (A : Around) (outer : List Env) (s : Shared) (H : Hp) (E : XK) (M : Option Mc) (X0 : List Addr)
    (hr : Room 2 (A.deeper (PyProof.Rows.envOfC qual (defScope s_check_table) s.heap.objs.size f cdv))) :
    PSs (cxOf CX0 P w K mg base ["rows", "letters", "one", "other"] qual (defScope s_check_table) f cdv A outer s H E).nox (defBody s_check_table) (LS ⟨K, M, X0, H, []⟩ t_check_table) :=
  (psd_cons (psd_expr (pd_call rfl c_check_shape hr (by decide) (pad_cons (pd_var 0) pad_nil)))
  (psd_cons (psd_set 1 sc_check_table.nd (pd_fr (pdf_lr2 rfl g_list g_range pd_int (pd_add rfl (pd_lenN rfl g_len 0) pd_int))))
  (psd_one (psd_for PassesOwn.never rfl (pid_list rfl (pd_var 1)) (pgd_name 2 sc_check_table.nd) (psd_one (psd_for PassesOwn.never rfl (pid_list rfl (pd_var 1)) (pgd_name 3 sc_check_table.nd) (psd_one (psd_if (ptd_not (pt_tru rfl (pd_call rfl c_can_stand hr (by decide) (pad_cons (pd_var 0) (pad_cons (pd_var 2) (pad_cons (pd_var 3) pad_nil)))))) (psd_one psd_never) psd_nil))))))))
abbrev s_weight_of : Stmt := top 20
theorem sc_weight_of : FnScope ["table", "one", "other", "upward", "downward"] ["table", "one", "other"] (defScope s_weight_of) := ⟨rfl, rfl, rfl, by decide +kernel, rfl, by decide +kernel, by decide +kernel⟩
theorem w_weight_of {P : Program} {w : World} {K : PySem.W.Frag} {mg : PySem.Str → Option Value} {base : Heap} (g_OWN_WEIGHT : ∃ t, mg "OWN_WEIGHT" = some (.int (-2) t)) (g_WEIGHTS : KdAt P w K mg "WEIGHTS" kd_WEIGHTS) (qual : PySem.Str) (f : Addr) (cdv : Value) (A : Around) (outer : List Env) (s : Shared) (H : Hp) (E : XK) (M : Option Mc) (X0 : List Addr)
    (hr : Room 0 (A.deeper (PyProof.Rows.envOfC qual (defScope s_weight_of) s.heap.objs.size f cdv))) :
    PSs (cxOf CX0 P w K mg base ["table", "one", "other", "upward", "downward"] qual (defScope s_weight_of) f cdv A outer s H E).nox (defBody s_weight_of) (LS ⟨K, M, X0, H, []⟩ t_weight_of) :=
  (psd_cons (psd_if (ptd_cmp (OpR.or op_eq (op_eqD hr.units)) (fit_eq rfl) (pd_var 1) (pd_var 2)) (psd_one (psd_ret (pd_globE g_OWN_WEIGHT))) psd_nil)
  (psd_cons (psd_asg (pd_kd rfl g_WEIGHTS (pd_ix rfl (pd_ixN rfl 0 (pd_sub (pd_var 1) pd_int)) (pd_sub (pd_var 2) pd_int))) (pgd_tup rfl rfl (pgds_cons (pgd_name 3 sc_weight_of.nd) (pgds_cons (pgd_name 4 sc_weight_of.nd) pgds_nil))))
  (psd_one (psd_ret (pd_if (ptd_cmp op_lt fit_lt (pd_var 1) (pd_var 2)) (pd_var 3) (pd_var 4))))))
abbrev s_weights_from : Stmt := top 21
theorem sc_weights_from : FnScope ["table", "one", "other"] ["table", "one"] (defScope s_weights_from) := ⟨rfl, rfl, rfl, by decide +kernel, rfl, by decide +kernel, by decide +kernel⟩
theorem w_weights_from {P : Program} {w : World} {K : PySem.W.Frag} {mg : PySem.Str → Option Value} {base : Heap} (g_tuple : mg "tuple" = none) (g_range : mg "range" = none) (g_len : mg "len" = none) (c_weight_of : CalD P w K mg base 1 "weight_of" false sp_weight_of) (qual : PySem.Str) (f : Addr) (cdv : Value) (A : Around) (outer : List Env) (s : Shared) (H : Hp) (E : XK) (M : Option Mc) (X0 : List Addr)
    (hr : Room 1 (A.deeper (PyProof.Rows.envOfC qual (defScope s_weights_from) s.heap.objs.size f cdv))) :
    PSs (cxOf CX0 P w K mg base ["table", "one", "other"] qual (defScope s_weights_from) f cdv A outer s H E).nox (defBody s_weights_from) (LS ⟨K, M, X0, H, []⟩ t_weights_from) :=
  (psd_one (psd_ret (pd_tupOf rfl g_tuple (pd_fr (pdf_lc (own := [("other", 2)]) rfl sc_weights_from.nd (pid_r2 g_range pd_int (pd_add rfl (pd_lenN rfl g_len 0) pd_int)) (blkOk_by (N := ["table", "one", "other"]) (sc := defScope s_weights_from) (by decide +kernel)) (fun sB HB CB clB fpB => (pgd_name 2 sc_weights_from.nd)) (fun sB HB CB clB fpB => pts_none) (fun sB HB CB clB fpB => (pd_call rfl c_weight_of hr (by decide) (pad_cons (pd_var 0) (pad_cons (pd_var 1) (pad_cons (pd_var 2) pad_nil))))))))))
abbrev s_as_word : Stmt := top 24
theorem sc_as_word : FnScope ["value", "many", "place", "item"] ["value", "many"] (defScope s_as_word) := ⟨rfl, rfl, rfl, by decide +kernel, rfl, by decide +kernel, by decide +kernel⟩
theorem w_as_word {P : Program} {w : World} {K : PySem.W.Frag} {mg : PySem.Str → Option Value} {base : Heap} (g_isinstance : mg "isinstance" = none) (g_list : mg "list" = none) (g_tuple : mg "tuple" = none) (g_len : mg "len" = none) (g_MOST_WORD : ∃ t, mg "MOST_WORD" = some (.int (60) t)) (g_enumerate : mg "enumerate" = none) (c_is_letter : CalD P w K mg base 2 "is_letter" false sp_is_letter) (qual : PySem.Str) (f : Addr) (cdv : Value) (A : Around) (outer : List Env) (s : Shared) (H : Hp) (E : XK) (M : Option Mc) (X0 : List Addr)
    (hr : Room 2 (A.deeper (PyProof.Rows.envOfC qual (defScope s_as_word) s.heap.objs.size f cdv))) :
    PSs (cxOf CX0 P w K mg base ["value", "many", "place", "item"] qual (defScope s_as_word) f cdv A outer s H E).nox (defBody s_as_word) (LS ⟨K, M, X0, H, []⟩ t_as_word) :=
  (psd_cons (psd_if (ptd_not (pt_tru rfl (pd_isi2 rfl g_isinstance g_list g_tuple PyProof.Rows.boot_list PyProof.Rows.boot_tuple (pd_var 0)))) (psd_one psd_never) psd_nil)
  (psd_cons (psd_if (ptd_cmp op_gt fit_gt (pd_lenN rfl g_len 0) (pd_globE g_MOST_WORD)) (psd_one psd_never) psd_nil)
  (psd_cons (psd_for PassesOwn.never rfl (pid_enumS rfl g_enumerate (pd_var 0)) (pgd_tup rfl rfl (pgds_cons (pgd_name 2 sc_as_word.nd) (pgds_cons (pgd_name 3 sc_as_word.nd) pgds_nil))) (psd_one (psd_if (ptd_not (pt_tru rfl (pd_call rfl c_is_letter hr (by decide) (pad_cons (pd_var 3) (pad_cons (pd_var 1) pad_nil))))) (psd_one psd_never) psd_nil)))
  (psd_one (psd_ret (pd_tupN rfl g_tuple 0))))))
abbrev s_is_row : Stmt := top 26
theorem sc_is_row : FnScope ["bonds", "value", "number"] ["bonds", "value"] (defScope s_is_row) := ⟨rfl, rfl, rfl, by decide +kernel, rfl, by decide +kernel, by decide +kernel⟩
theorem w_is_row {P : Program} {w : World} {K : PySem.W.Frag} {mg : PySem.Str → Option Value} {base : Heap} {BC : Addr} (g_isinstance : mg "isinstance" = none) (g_tuple : mg "tuple" = none) (g_len : mg "len" = none) (g_all : mg "all" = none) (c_is_whole : CalD P w K mg base 1 "is_whole" false sp_is_whole) (c_len_Bonds : LenD P w K mg base 1 BC (sp_len_Bonds BC)) (qual : PySem.Str) (f : Addr) (cdv : Value) (A : Around) (outer : List Env) (s : Shared) (H : Hp) (E : XK) (M : Option Mc) (X0 : List Addr)
    (hr : Room 2 (A.deeper (PyProof.Rows.envOfC qual (defScope s_is_row) s.heap.objs.size f cdv))) :
    PSs (cxOf CX0 P w K mg base ["bonds", "value", "number"] qual (defScope s_is_row) f cdv A outer s H E).nox (defBody s_is_row) (LS ⟨K, M, X0, H, []⟩ (t_is_row BC)) :=
  (psd_cons (psd_if (PW.pt (pwd_or (ptd_not (pt_tru rfl (pd_isi rfl g_isinstance g_tuple PyProof.Rows.boot_tuple (pd_var 1)))) (pwd_or1 (ptd_cmp (OpR.or op_ne (op_neD hr.units)) (fit_ne rfl) (pd_lenN rfl g_len 1) (pd_lenO rfl g_len c_len_Bonds hr (by decide) (pd_var 0)))))) (psd_one (psd_ret pd_bl)) psd_nil)
  (psd_one (psd_ret (pd_all rfl g_all rfl (pd_fr (pdf_lc (own := [("number", 2)]) rfl sc_is_row.nd (pid_tup rfl (pd_var 1)) (blkOk_by (N := ["bonds", "value", "number"]) (sc := defScope s_is_row) (by decide +kernel)) (fun sB HB CB clB fpB => (pgd_name 2 sc_is_row.nd)) (fun sB HB CB clB fpB => pts_none) (fun sB HB CB clB fpB => (pd_call rfl c_is_whole hr (by decide) (pad_cons (pd_var 2) pad_nil)))))))))
abbrev s_first_row : Stmt := top 27
theorem sc_first_row : FnScope ["bonds"] ["bonds"] (defScope s_first_row) := ⟨rfl, rfl, rfl, by decide +kernel, rfl, by decide +kernel, by decide +kernel⟩
theorem w_first_row {P : Program} {w : World} {K : PySem.W.Frag} {mg : PySem.Str → Option Value} {base : Heap} {BC : Addr} (g_len : mg "len" = none) (c_len_Bonds : LenD P w K mg base 1 BC (sp_len_Bonds BC)) (qual : PySem.Str) (f : Addr) (cdv : Value) (A : Around) (outer : List Env) (s : Shared) (H : Hp) (E : XK) (M : Option Mc) (X0 : List Addr)
    (hr : Room 2 (A.deeper (PyProof.Rows.envOfC qual (defScope s_first_row) s.heap.objs.size f cdv))) :
    PSs (cxOf CX0 P w K mg base ["bonds"] qual (defScope s_first_row) f cdv A outer s H E).nox (defBody s_first_row) (LS ⟨K, M, X0, H, []⟩ (t_first_row BC)) :=
  (psd_one (psd_ret (pd_mul rfl (pd_tup (pad_cons pd_int pad_nil)) (pd_lenO rfl g_len c_len_Bonds hr (by decide) (pd_var 0)))))
abbrev s_pressed : Stmt := top 28
theorem sc_pressed : FnScope ["bonds", "row", "letter", "number", "weights", "old", "weight"] ["bonds", "row", "letter"] (defScope s_pressed) := ⟨rfl, rfl, rfl, by decide +kernel, rfl, by decide +kernel, by decide +kernel⟩
theorem w_pressed {P : Program} {w : World} {K : PySem.W.Frag} {mg : PySem.Str → Option Value} {base : Heap} {BC : Addr} (g_tuple : mg "tuple" = none) (g_zip : mg "zip" = none) (g_Bonds : Cls K BC) (g_Bonds_weights : NoAttr K BC "weights") (qual : PySem.Str) (f : Addr) (cdv : Value) (A : Around) (outer : List Env) (s : Shared) (H : Hp) (E : XK) (M : Option Mc) (X0 : List Addr)
    (hr : Room 0 (A.deeper (PyProof.Rows.envOfC qual (defScope s_pressed) s.heap.objs.size f cdv))) :
    PSs (cxOf CX0 P w K mg base ["bonds", "row", "letter", "number", "weights", "old", "weight"] qual (defScope s_pressed) f cdv A outer s H E).nox (defBody s_pressed) (LS ⟨K, M, X0, H, []⟩ (t_pressed BC)) :=
  (psd_cons (psd_set 3 sc_pressed.nd (pd_ixN rfl 1 (pd_sub (pd_var 2) pd_int)))
  (psd_cons (psd_set 4 sc_pressed.nd (pd_ix rfl (pd_fld rfl g_Bonds g_Bonds_weights (pd_var 0)) (pd_sub (pd_var 2) pd_int)))
  (psd_one (psd_ret (pd_tupOf rfl g_tuple (pd_fr (pdf_lc (own := [("old", 5), ("weight", 6)]) rfl sc_pressed.nd (pid_zip rfl g_zip (pd_var 1) (pd_var 4)) (blkOk_by (N := ["bonds", "row", "letter", "number", "weights", "old", "weight"]) (sc := defScope s_pressed) (by decide +kernel)) (fun sB HB CB clB fpB => (pgd_tup rfl rfl (pgds_cons (pgd_name 5 sc_pressed.nd) (pgds_cons (pgd_name 6 sc_pressed.nd) pgds_nil)))) (fun sB HB CB clB fpB => pts_none) (fun sB HB CB clB fpB => (pd_add rfl (pd_var 5) (pd_mul rfl (pd_var 6) (pd_var 3)))))))))))
abbrev s_row_behind : Stmt := top 29
theorem sc_row_behind : FnScope ["bonds", "letters", "row", "letter"] ["bonds", "letters"] (defScope s_row_behind) := ⟨rfl, rfl, rfl, by decide +kernel, rfl, by decide +kernel, by decide +kernel⟩
theorem w_row_behind {P : Program} {w : World} {K : PySem.W.Frag} {mg : PySem.Str → Option Value} {base : Heap} {BC : Addr} (c_first_row : CalD P w K mg base 3 "first_row" false (sp_first_row BC)) (c_pressed : CalD P w K mg base 1 "pressed" false (sp_pressed BC)) (qual : PySem.Str) (f : Addr) (cdv : Value) (A : Around) (outer : List Env) (s : Shared) (H : Hp) (E : XK) (M : Option Mc) (X0 : List Addr)
    (hr : Room 3 (A.deeper (PyProof.Rows.envOfC qual (defScope s_row_behind) s.heap.objs.size f cdv))) :
    PSs (cxOf CX0 P w K mg base ["bonds", "letters", "row", "letter"] qual (defScope s_row_behind) f cdv A outer s H E).nox (defBody s_row_behind) (LS ⟨K, M, X0, H, []⟩ (t_row_behind BC)) :=
  (psd_cons (psd_set 2 sc_row_behind.nd (pd_call rfl c_first_row hr (by decide) (pad_cons (pd_var 0) pad_nil)))
  (psd_cons (psd_for PassesOwn.never rfl (pid_seq rfl (pd_var 1)) (pgd_name 3 sc_row_behind.nd) (psd_one (psd_set 2 sc_row_behind.nd (pd_call rfl c_pressed hr (by decide) (pad_cons (pd_var 0) (pad_cons (pd_var 2) (pad_cons (pd_var 3) pad_nil)))))))
  (psd_one (psd_ret (pd_var 2)))))
abbrev s_fallen : Stmt := top 30
theorem sc_fallen : FnScope ["row", "at", "number"] ["row"] (defScope s_fallen) := ⟨rfl, rfl, rfl, by decide +kernel, rfl, by decide +kernel, by decide +kernel⟩
theorem w_fallen {P : Program} {w : World} {K : PySem.W.Frag} {mg : PySem.Str → Option Value} {base : Heap} (g_tuple : mg "tuple" = none) (g_enumerate : mg "enumerate" = none) (qual : PySem.Str) (f : Addr) (cdv : Value) (A : Around) (outer : List Env) (s : Shared) (H : Hp) (E : XK) (M : Option Mc) (X0 : List Addr)
    (hr : Room 0 (A.deeper (PyProof.Rows.envOfC qual (defScope s_fallen) s.heap.objs.size f cdv))) :
    PSs (cxOf CX0 P w K mg base ["row", "at", "number"] qual (defScope s_fallen) f cdv A outer s H E).nox (defBody s_fallen) (LS ⟨K, M, X0, H, []⟩ t_fallen) :=
  (psd_one (psd_ret (pd_tupOf rfl g_tuple (pd_fr (pdf_lc (own := [("at", 1), ("number", 2)]) rfl sc_fallen.nd (pid_enumS rfl g_enumerate (pd_var 0)) (blkOk_by (N := ["row", "at", "number"]) (sc := defScope s_fallen) (by decide +kernel)) (fun sB HB CB clB fpB => (pgd_tup rfl rfl (pgds_cons (pgd_name 1 sc_fallen.nd) (pgds_cons (pgd_name 2 sc_fallen.nd) pgds_nil)))) (fun sB HB CB clB fpB => (ptsd_one (ptd_cmp op_lt fit_lt (pd_var 2) pd_int))) (fun sB HB CB clB fpB => (pd_add rfl (pd_var 1) pd_int)))))))
abbrev s_way_down : Stmt := top 31
theorem sc_way_down : FnScope ["bonds", "row", "letters", "now", "low"] ["bonds", "row"] (defScope s_way_down) := ⟨rfl, rfl, rfl, by decide +kernel, rfl, by decide +kernel, by decide +kernel⟩
theorem w_way_down {P : Program} {w : World} {K : PySem.W.Frag} {mg : PySem.Str → Option Value} {base : Heap} {BC : Addr} (g_len : mg "len" = none) (g_MOST_WORD : ∃ t, mg "MOST_WORD" = some (.int (60) t)) (c_fallen : CalD P w K mg base 1 "fallen" false sp_fallen) (c_pressed : CalD P w K mg base 1 "pressed" false (sp_pressed BC)) (qual : PySem.Str) (f : Addr) (cdv : Value) (A : Around) (outer : List Env) (s : Shared) (H : Hp) (E : XK) (M : Option Mc) (X0 : List Addr)
    (hr : Room 1 (A.deeper (PyProof.Rows.envOfC qual (defScope s_way_down) s.heap.objs.size f cdv))) :
    PSs (cxOf CX0 P w K mg base ["bonds", "row", "letters", "now", "low"] qual (defScope s_way_down) f cdv A outer s H E).nox (defBody s_way_down) (LS ⟨K, M, X0, H, [2]⟩ (t_way_down BC)) :=
  (psd_cons (psd_setO 2 rfl sc_way_down.nd (pdf_lst pad_nil))
  (psd_cons (psd_set 3 sc_way_down.nd (pd_var 1))
  (psd_cons (psd_set 4 sc_way_down.nd (pd_call rfl c_fallen hr (by decide) (pad_cons (pd_var 3) pad_nil)))
  (psd_cons (psd_while PassesOwn.never (PW.pt (pwd_and (pt_tru rfl (pd_var 4)) (pwd_and1 (ptd_cmp op_lt fit_lt (pd_lenN rfl g_len 2) (pd_globE g_MOST_WORD))))) (psd_cons (psd_app 2 (pd_ixN rfl 4 pd_int))
  (psd_cons (psd_set 3 sc_way_down.nd (pd_call rfl c_pressed hr (by decide) (pad_cons (pd_var 0) (pad_cons (pd_var 3) (pad_cons (pd_ixN rfl 4 pd_int) pad_nil)))))
  (psd_one (psd_set 4 sc_way_down.nd (pd_call rfl c_fallen hr (by decide) (pad_cons (pd_var 3) pad_nil)))))))
  (psd_one (psd_ret (pd_tup (pad_cons (pd_var 2) (pad_cons (pd_var 3) pad_nil)))))))))
abbrev s_row_of : Stmt := top 32
theorem sc_row_of : FnScope ["bonds", "word"] ["bonds", "word"] (defScope s_row_of) := ⟨rfl, rfl, rfl, by decide +kernel, rfl, by decide +kernel, by decide +kernel⟩
theorem w_row_of {P : Program} {w : World} {K : PySem.W.Frag} {mg : PySem.Str → Option Value} {base : Heap} {BC : Addr} (g_len : mg "len" = none) (c_row_behind : CalD P w K mg base 4 "row_behind" false (sp_row_behind BC)) (c_as_word : CalD P w K mg base 3 "as_word" false sp_as_word) (c_len_Bonds : LenD P w K mg base 1 BC (sp_len_Bonds BC)) (qual : PySem.Str) (f : Addr) (cdv : Value) (A : Around) (outer : List Env) (s : Shared) (H : Hp) (E : XK) (M : Option Mc) (X0 : List Addr)
    (hr : Room 4 (A.deeper (PyProof.Rows.envOfC qual (defScope s_row_of) s.heap.objs.size f cdv))) :
    PSs (cxOf CX0 P w K mg base ["bonds", "word"] qual (defScope s_row_of) f cdv A outer s H E).nox (defBody s_row_of) (LS ⟨K, M, X0, H, []⟩ (t_row_of BC)) :=
  (psd_one (psd_ret (pd_call rfl c_row_behind hr (by decide) (pad_cons (pd_var 0) (pad_cons (pd_call rfl c_as_word hr (by decide) (pad_cons (pd_var 1) (pad_cons (pd_lenO rfl g_len c_len_Bonds hr (by decide) (pd_var 0)) pad_nil))) pad_nil)))))
abbrev s_word_of : Stmt := top 33
theorem sc_word_of : FnScope ["bonds", "row", "letters", "end"] ["bonds", "row"] (defScope s_word_of) := ⟨rfl, rfl, rfl, by decide +kernel, rfl, by decide +kernel, by decide +kernel⟩
theorem w_word_of {P : Program} {w : World} {K : PySem.W.Frag} {mg : PySem.Str → Option Value} {base : Heap} {BC : Addr} (g_tuple : mg "tuple" = none) (c_is_row : CalD P w K mg base 3 "is_row" false (sp_is_row BC)) (c_way_down : CalD P w K mg base 2 "way_down" false (sp_way_down BC)) (c_first_row : CalD P w K mg base 3 "first_row" false (sp_first_row BC)) (c_row_behind : CalD P w K mg base 4 "row_behind" false (sp_row_behind BC)) (qual : PySem.Str) (f : Addr) (cdv : Value) (A : Around) (outer : List Env) (s : Shared) (H : Hp) (E : XK) (M : Option Mc) (X0 : List Addr)
    (hr : Room 4 (A.deeper (PyProof.Rows.envOfC qual (defScope s_word_of) s.heap.objs.size f cdv))) :
    PSs (cxOf CX0 P w K mg base ["bonds", "row", "letters", "end"] qual (defScope s_word_of) f cdv A outer s H E).nox (defBody s_word_of) (LS ⟨K, M, X0, H, []⟩ (t_word_of BC)) :=
  (psd_cons (psd_if (ptd_not (pt_tru rfl (pd_call rfl c_is_row hr (by decide) (pad_cons (pd_var 0) (pad_cons (pd_var 1) pad_nil))))) (psd_one psd_never) psd_nil)
  (psd_cons (psd_asg (pd_call rfl c_way_down hr (by decide) (pad_cons (pd_var 0) (pad_cons (pd_var 1) pad_nil))) (pgd_tup rfl rfl (pgds_cons (pgd_name 2 sc_word_of.nd) (pgds_cons (pgd_name 3 sc_word_of.nd) pgds_nil))))
  (psd_cons (psd_if (ptd_cmp (OpR.or op_ne (op_neD hr.units)) (fit_ne rfl) (pd_var 3) (pd_call rfl c_first_row hr (by decide) (pad_cons (pd_var 0) pad_nil))) (psd_one psd_never) psd_nil)
  (psd_one (psd_ret (pd_tupOf rfl g_tuple (pd_ix rfl (pd_call rfl c_way_down hr (by decide) (pad_cons (pd_var 0) (pad_cons (pd_call rfl c_row_behind hr (by decide) (pad_cons (pd_var 0) (pad_cons (pd_var 2) pad_nil))) pad_nil))) pd_int)))))))
abbrev s_lasts : Stmt := top 34
theorem sc_lasts : FnScope ["bonds", "word"] ["bonds", "word"] (defScope s_lasts) := ⟨rfl, rfl, rfl, by decide +kernel, rfl, by decide +kernel, by decide +kernel⟩
theorem w_lasts {P : Program} {w : World} {K : PySem.W.Frag} {mg : PySem.Str → Option Value} {base : Heap} {BC : Addr} (c_fallen : CalD P w K mg base 1 "fallen" false sp_fallen) (c_row_of : CalD P w K mg base 5 "row_of" false (sp_row_of BC)) (qual : PySem.Str) (f : Addr) (cdv : Value) (A : Around) (outer : List Env) (s : Shared) (H : Hp) (E : XK) (M : Option Mc) (X0 : List Addr)
    (hr : Room 5 (A.deeper (PyProof.Rows.envOfC qual (defScope s_lasts) s.heap.objs.size f cdv))) :
    PSs (cxOf CX0 P w K mg base ["bonds", "word"] qual (defScope s_lasts) f cdv A outer s H E).nox (defBody s_lasts) (LS ⟨K, M, X0, H, []⟩ (t_lasts BC)) :=
  (psd_one (psd_ret (pd_call rfl c_fallen hr (by decide) (pad_cons (pd_call rfl c_row_of hr (by decide) (pad_cons (pd_var 0) (pad_cons (pd_var 1) pad_nil))) pad_nil))))
abbrev s_check_led : Stmt := top 37
theorem sc_check_led : FnScope ["letters"] ["letters"] (defScope s_check_led) := ⟨rfl, rfl, rfl, by decide +kernel, rfl, by decide +kernel, by decide +kernel⟩
theorem w_check_led {P : Program} {w : World} {K : PySem.W.Frag} {mg : PySem.Str → Option Value} {base : Heap} (g_len : mg "len" = none) (g_MOST_LED : ∃ t, mg "MOST_LED" = some (.int (16) t)) (qual : PySem.Str) (f : Addr) (cdv : Value) (A : Around) (outer : List Env) (s : Shared) (H : Hp) (E : XK) (M : Option Mc) (X0 : List Addr)
    (hr : Room 0 (A.deeper (PyProof.Rows.envOfC qual (defScope s_check_led) s.heap.objs.size f cdv))) :
    PSs (cxOf CX0 P w K mg base ["letters"] qual (defScope s_check_led) f cdv A outer s H E).nox (defBody s_check_led) (LS ⟨K, M, X0, H, []⟩ t_check_led) :=
  (psd_one (psd_if (ptd_cmp op_gt fit_gt (pd_lenN rfl g_len 0) (pd_globE g_MOST_LED)) (psd_one psd_never) psd_nil))
abbrev s_least_word : Stmt := top 38
theorem sc_least_word : FnScope ["bonds", "word"] ["bonds", "word"] (defScope s_least_word) := ⟨rfl, rfl, rfl, by decide +kernel, rfl, by decide +kernel, by decide +kernel⟩
theorem w_least_word {P : Program} {w : World} {K : PySem.W.Frag} {mg : PySem.Str → Option Value} {base : Heap} {BC : Addr} (c_word_of : CalD P w K mg base 5 "word_of" false (sp_word_of BC)) (c_row_of : CalD P w K mg base 5 "row_of" false (sp_row_of BC)) (qual : PySem.Str) (f : Addr) (cdv : Value) (A : Around) (outer : List Env) (s : Shared) (H : Hp) (E : XK) (M : Option Mc) (X0 : List Addr)
    (hr : Room 5 (A.deeper (PyProof.Rows.envOfC qual (defScope s_least_word) s.heap.objs.size f cdv))) :
    PSs (cxOf CX0 P w K mg base ["bonds", "word"] qual (defScope s_least_word) f cdv A outer s H E).nox (defBody s_least_word) (LS ⟨K, M, X0, H, []⟩ (t_least_word BC)) :=
  (psd_one (psd_ret (pd_call rfl c_word_of hr (by decide) (pad_cons (pd_var 0) (pad_cons (pd_call rfl c_row_of hr (by decide) (pad_cons (pd_var 0) (pad_cons (pd_var 1) pad_nil))) pad_nil)))))
abbrev s_least_to_strike : Stmt := top 41
theorem sc_least_to_strike : FnScope ["bonds", "word", "letters"] ["bonds", "word"] (defScope s_least_to_strike) := ⟨rfl, rfl, rfl, by decide +kernel, rfl, by decide +kernel, by decide +kernel⟩
theorem w_least_to_strike {P : Program} {w : World} {K : PySem.W.Frag} {mg : PySem.Str → Option Value} {base : Heap} {BC : Addr} (g_len : mg "len" = none) (g_MOST_BELOW : ∃ t, mg "MOST_BELOW" = some (.int (12) t)) (c_least_word : CalD P w K mg base 6 "least_word" false (sp_least_word BC)) (qual : PySem.Str) (f : Addr) (cdv : Value) (A : Around) (outer : List Env) (s : Shared) (H : Hp) (E : XK) (M : Option Mc) (X0 : List Addr)
    (hr : Room 6 (A.deeper (PyProof.Rows.envOfC qual (defScope s_least_to_strike) s.heap.objs.size f cdv))) :
    PSs (cxOf CX0 P w K mg base ["bonds", "word", "letters"] qual (defScope s_least_to_strike) f cdv A outer s H E).nox (defBody s_least_to_strike) (LS ⟨K, M, X0, H, []⟩ (t_least_to_strike BC)) :=
  (psd_cons (psd_set 2 sc_least_to_strike.nd (pd_call rfl c_least_word hr (by decide) (pad_cons (pd_var 0) (pad_cons (pd_var 1) pad_nil))))
  (psd_cons (psd_if (ptd_cmp op_gt fit_gt (pd_lenN rfl g_len 2) (pd_globE g_MOST_BELOW)) (psd_one psd_never) psd_nil)
  (psd_one (psd_ret (pd_var 2)))))
abbrev s_rows_below : Stmt := top 42
theorem sc_rows_below : FnScope ["bonds", "word", "rows", "letter", "row"] ["bonds", "word"] (defScope s_rows_below) := ⟨rfl, rfl, rfl, by decide +kernel, rfl, by decide +kernel, by decide +kernel⟩
theorem w_rows_below {P : Program} {w : World} {K : PySem.W.Frag} {mg : PySem.Str → Option Value} {base : Heap} {BC : Addr} (g_sorted : mg "sorted" = none) (g_set : mg "set" = none) (c_first_row : CalD P w K mg base 3 "first_row" false (sp_first_row BC)) (c_least_to_strike : CalD P w K mg base 7 "least_to_strike" false (sp_least_to_strike BC)) (c_pressed : CalD P w K mg base 1 "pressed" false (sp_pressed BC)) (qual : PySem.Str) (f : Addr) (cdv : Value) (A : Around) (outer : List Env) (s : Shared) (H : Hp) (E : XK) (M : Option Mc) (X0 : List Addr)
    (hr : Room 7 (A.deeper (PyProof.Rows.envOfC qual (defScope s_rows_below) s.heap.objs.size f cdv))) :
    PSs (cxOf CX0 P w K mg base ["bonds", "word", "rows", "letter", "row"] qual (defScope s_rows_below) f cdv A outer s H E).nox (defBody s_rows_below) (LS ⟨K, M, X0, H, []⟩ (t_rows_below BC)) :=
  (psd_cons (psd_set 2 sc_rows_below.nd (pd_fr (pdf_lst (pad_cons (pd_call rfl c_first_row hr (by decide) (pad_cons (pd_var 0) pad_nil)) pad_nil))))
  (psd_cons (psd_for PassesOwn.never rfl (pid_tup rfl (pd_call rfl c_least_to_strike hr (by decide) (pad_cons (pd_var 0) (pad_cons (pd_var 1) pad_nil)))) (pgd_name 3 sc_rows_below.nd) (psd_one (psd_set 2 sc_rows_below.nd (pd_fr (pdf_sortSetB rfl hr rfl g_sorted g_set (pd_add rfl (pd_var 2) (pd_fr (pdf_lc (own := [("row", 4)]) rfl sc_rows_below.nd (pid_list rfl (pd_var 2)) (blkOk_by (N := ["bonds", "word", "rows", "letter", "row"]) (sc := defScope s_rows_below) (by decide +kernel)) (fun sB HB CB clB fpB => (pgd_name 4 sc_rows_below.nd)) (fun sB HB CB clB fpB => pts_none) (fun sB HB CB clB fpB => (pd_call rfl c_pressed hr (by decide) (pad_cons (pd_var 0) (pad_cons (pd_var 4) (pad_cons (pd_var 3) pad_nil)))))))))))))
  (psd_one (psd_ret (pd_var 2)))))
abbrev s_kept : Stmt := top 43
theorem sc_kept : FnScope ["bonds", "one", "other", "row", "letters", "places", "place"] ["bonds", "one", "other"] (defScope s_kept) := ⟨rfl, rfl, rfl, by decide +kernel, rfl, by decide +kernel, by decide +kernel⟩
theorem w_kept {P : Program} {w : World} {K : PySem.W.Frag} {mg : PySem.Str → Option Value} {base : Heap} {BC : Addr} (g_range : mg "range" = none) (g_reversed : mg "reversed" = none) (g_len : mg "len" = none) (c_row_of : CalD P w K mg base 5 "row_of" false (sp_row_of BC)) (c_least_word : CalD P w K mg base 6 "least_word" false (sp_least_word BC)) (c_pressed : CalD P w K mg base 1 "pressed" false (sp_pressed BC)) (c_first_row : CalD P w K mg base 3 "first_row" false (sp_first_row BC)) (qual : PySem.Str) (f : Addr) (cdv : Value) (A : Around) (outer : List Env) (s : Shared) (H : Hp) (E : XK) (M : Option Mc) (X0 : List Addr)
    (hr : Room 6 (A.deeper (PyProof.Rows.envOfC qual (defScope s_kept) s.heap.objs.size f cdv))) :
    PSs (cxOf CX0 P w K mg base ["bonds", "one", "other", "row", "letters", "places", "place"] qual (defScope s_kept) f cdv A outer s H E).nox (defBody s_kept) (LS ⟨K, M, X0, H, []⟩ (t_kept BC)) :=
  (psd_cons (psd_set 3 sc_kept.nd (pd_call rfl c_row_of hr (by decide) (pad_cons (pd_var 0) (pad_cons (pd_var 1) pad_nil))))
  (psd_cons (psd_set 4 sc_kept.nd (pd_call rfl c_least_word hr (by decide) (pad_cons (pd_var 0) (pad_cons (pd_var 2) pad_nil))))
  (psd_cons (psd_set 5 sc_kept.nd (pd_tup pad_nil))
  (psd_cons (psd_for PassesOwn.never rfl (pid_rv g_range g_reversed (pd_lenN rfl g_len 4)) (pgd_name 6 sc_kept.nd) (psd_one (psd_if (ptd_cmp op_lt fit_lt (pd_ixN rfl 3 (pd_sub (pd_ixN rfl 4 (pd_var 6)) pd_int)) pd_int) (psd_cons (psd_set 3 sc_kept.nd (pd_call rfl c_pressed hr (by decide) (pad_cons (pd_var 0) (pad_cons (pd_var 3) (pad_cons (pd_ixN rfl 4 (pd_var 6)) pad_nil)))))
  (psd_one (psd_set 5 sc_kept.nd (pd_tup (pad_cons (pd_var 6) (pad_star rfl (pd_var 5) pad_nil)))))) psd_nil)))
  (psd_one (psd_ret (pd_if (ptd_cmp (OpR.or op_eq (op_eqD hr.units)) (fit_eq rfl) (pd_var 3) (pd_call rfl c_first_row hr (by decide) (pad_cons (pd_var 0) pad_nil))) (pd_var 5) pd_non)))))))
abbrev s_is_below : Stmt := top 44
theorem sc_is_below : FnScope ["bonds", "one", "other"] ["bonds", "one", "other"] (defScope s_is_below) := ⟨rfl, rfl, rfl, by decide +kernel, rfl, by decide +kernel, by decide +kernel⟩
theorem w_is_below {P : Program} {w : World} {K : PySem.W.Frag} {mg : PySem.Str → Option Value} {base : Heap} {BC : Addr} (c_kept : CalD P w K mg base 7 "kept" false (sp_kept BC)) (qual : PySem.Str) (f : Addr) (cdv : Value) (A : Around) (outer : List Env) (s : Shared) (H : Hp) (E : XK) (M : Option Mc) (X0 : List Addr)
    (hr : Room 7 (A.deeper (PyProof.Rows.envOfC qual (defScope s_is_below) s.heap.objs.size f cdv))) :
    PSs (cxOf CX0 P w K mg base ["bonds", "one", "other"] qual (defScope s_is_below) f cdv A outer s H E).nox (defBody s_is_below) (LS ⟨K, M, X0, H, []⟩ (t_is_below BC)) :=
  (psd_one (psd_ret (pd_cmp (OpR.or op_notN op_notBl) fit_isnot (pd_call rfl c_kept hr (by decide) (pad_cons (pd_var 0) (pad_cons (pd_var 1) (pad_cons (pd_var 2) pad_nil)))) pd_non)))
abbrev s_count_below : Stmt := top 45
theorem sc_count_below : FnScope ["bonds", "word"] ["bonds", "word"] (defScope s_count_below) := ⟨rfl, rfl, rfl, by decide +kernel, rfl, by decide +kernel, by decide +kernel⟩
theorem w_count_below {P : Program} {w : World} {K : PySem.W.Frag} {mg : PySem.Str → Option Value} {base : Heap} {BC : Addr} (g_len : mg "len" = none) (c_rows_below : CalD P w K mg base 8 "rows_below" false (sp_rows_below BC)) (qual : PySem.Str) (f : Addr) (cdv : Value) (A : Around) (outer : List Env) (s : Shared) (H : Hp) (E : XK) (M : Option Mc) (X0 : List Addr)
    (hr : Room 8 (A.deeper (PyProof.Rows.envOfC qual (defScope s_count_below) s.heap.objs.size f cdv))) :
    PSs (cxOf CX0 P w K mg base ["bonds", "word"] qual (defScope s_count_below) f cdv A outer s H E).nox (defBody s_count_below) (LS ⟨K, M, X0, H, []⟩ (t_count_below BC)) :=
  (psd_one (psd_ret (pd_len rfl g_len (pd_call rfl c_rows_below hr (by decide) (pad_cons (pd_var 0) (pad_cons (pd_var 1) pad_nil))))))
abbrev s_row_to_spell : Stmt := top 47
theorem sc_row_to_spell : FnScope ["bonds", "word", "letters"] ["bonds", "word"] (defScope s_row_to_spell) := ⟨rfl, rfl, rfl, by decide +kernel, rfl, by decide +kernel, by decide +kernel⟩
theorem w_row_to_spell {P : Program} {w : World} {K : PySem.W.Frag} {mg : PySem.Str → Option Value} {base : Heap} {BC : Addr} (g_len : mg "len" = none) (c_as_word : CalD P w K mg base 3 "as_word" false sp_as_word) (c_check_led : CalD P w K mg base 1 "check_led" false sp_check_led) (c_row_behind : CalD P w K mg base 4 "row_behind" false (sp_row_behind BC)) (c_len_Bonds : LenD P w K mg base 1 BC (sp_len_Bonds BC)) (qual : PySem.Str) (f : Addr) (cdv : Value) (A : Around) (outer : List Env) (s : Shared) (H : Hp) (E : XK) (M : Option Mc) (X0 : List Addr)
    (hr : Room 4 (A.deeper (PyProof.Rows.envOfC qual (defScope s_row_to_spell) s.heap.objs.size f cdv))) :
    PSs (cxOf CX0 P w K mg base ["bonds", "word", "letters"] qual (defScope s_row_to_spell) f cdv A outer s H E).nox (defBody s_row_to_spell) (LS ⟨K, M, X0, H, []⟩ (t_row_to_spell BC)) :=
  (psd_cons (psd_set 2 sc_row_to_spell.nd (pd_call rfl c_as_word hr (by decide) (pad_cons (pd_var 1) (pad_cons (pd_lenO rfl g_len c_len_Bonds hr (by decide) (pd_var 0)) pad_nil))))
  (psd_cons (psd_expr (pd_call rfl c_check_led hr (by decide) (pad_cons (pd_var 2) pad_nil)))
  (psd_one (psd_ret (pd_call rfl c_row_behind hr (by decide) (pad_cons (pd_var 0) (pad_cons (pd_rev rfl (pd_var 2)) pad_nil)))))))
abbrev s__law_mixed : Stmt := top 50
theorem sc__law_mixed : FnScope ["cell", "n", "blend"] ["cell", "n"] (defScope s__law_mixed) := ⟨rfl, rfl, rfl, by decide +kernel, rfl, by decide +kernel, by decide +kernel⟩
theorem w__law_mixed {P : Program} {w : World} {K : PySem.W.Frag} {mg : PySem.Str → Option Value} {base : Heap} (g_int : mg "int" = none) (qual : PySem.Str) (f : Addr) (cdv : Value) (A : Around) (outer : List Env) (s : Shared) (H : Hp) (E : XK) (M : Option Mc) (X0 : List Addr)
    (hr : Room 0 (A.deeper (PyProof.Rows.envOfC qual (defScope s__law_mixed) s.heap.objs.size f cdv))) :
    PSs (cxOf CX0 P w K mg base ["cell", "n", "blend"] qual (defScope s__law_mixed) f cdv A outer s H E).nox (defBody s__law_mixed) (LS ⟨K, M, X0, H, []⟩ t__law_mixed) :=
  (psd_cons (psd_set 2 sc__law_mixed.nd (pd_add rfl (pd_add rfl (pd_mod (pd_int1 g_int (pd_mul rfl (pd_mul rfl (pd_var 0) (pd_add rfl pd_int (pd_mul rfl pd_int (pd_var 1)))) pd_int)) pd_int) (pd_mul rfl (pd_mul rfl pd_int (pd_var 1)) (pd_var 1))) (pd_mul rfl pd_int (pd_var 1))))
  (psd_one (psd_ret (pd_div (pd_mod (pd_int1 g_int (pd_mul rfl (pd_var 2) pd_int)) pd_int) pd_int))))
abbrev s__law_folded : Stmt := top 51
abbrev s__law_draw : Stmt := top 52
abbrev s__law_begun : Stmt := top 53
abbrev s__law_table : Stmt := top 54
theorem sc__law_table : FnScope ["m", "many", "some", "rows", "one", "other", "bond_so", "k"] ["m", "many", "some"] (defScope s__law_table) := ⟨rfl, rfl, rfl, by decide +kernel, rfl, by decide +kernel, by decide +kernel⟩
abbrev s__law_weight : Stmt := top 55
theorem sc__law_weight : FnScope ["table", "one", "other", "pair"] ["table", "one", "other"] (defScope s__law_weight) := ⟨rfl, rfl, rfl, by decide +kernel, rfl, by decide +kernel, by decide +kernel⟩
theorem w__law_weight {P : Program} {w : World} {K : PySem.W.Frag} {mg : PySem.Str → Option Value} {base : Heap}  (qual : PySem.Str) (f : Addr) (cdv : Value) (A : Around) (outer : List Env) (s : Shared) (H : Hp) (E : XK) (M : Option Mc) (X0 : List Addr)
    (hr : Room 0 (A.deeper (PyProof.Rows.envOfC qual (defScope s__law_weight) s.heap.objs.size f cdv))) :
    PSs (cxOf CX0 P w K mg base ["table", "one", "other", "pair"] qual (defScope s__law_weight) f cdv A outer s H E).nox (defBody s__law_weight) (LS ⟨K, M, X0, H, []⟩ t__law_weightL) :=
  (psd_cons (psd_set 3 sc__law_weight.nd (pd_dix rfl hr (pdp_cons (pd_tup (pad_cons pd_int (pad_cons pd_int pad_nil))) (pdp_cons (pd_tup (pad_cons pd_int (pad_cons pd_int pad_nil))) (pdp_cons (pd_tup (pad_cons pd_int (pad_cons pd_int pad_nil))) (pdp_cons (pd_tup (pad_cons pd_int (pad_cons pd_int pad_nil))) (pdp_cons (pd_tup (pad_cons pd_int (pad_cons pd_int pad_nil))) pdp_nil))))) (pd_ix rfl (pd_ixN rfl 0 (pd_sub (pd_var 1) pd_int)) (pd_sub (pd_var 2) pd_int))))
  (psd_one (psd_ret (pd_if (ptd_cmp op_lt fit_lt (pd_var 1) (pd_var 2)) (pd_ixN rfl 3 pd_int) (pd_ixN rfl 3 pd_int)))))
abbrev s__law_pressed : Stmt := top 56
theorem sc__law_pressed : FnScope ["table", "row", "letter", "number", "found", "other", "own"] ["table", "row", "letter"] (defScope s__law_pressed) := ⟨rfl, rfl, rfl, by decide +kernel, rfl, by decide +kernel, by decide +kernel⟩
theorem w__law_pressed {P : Program} {w : World} {K : PySem.W.Frag} {mg : PySem.Str → Option Value} {base : Heap} (g_range : mg "range" = none) (g_len : mg "len" = none) (g_tuple : mg "tuple" = none) (c__law_weight : CalD P w K mg base 1 "_law_weight" false sp__law_weightL) (qual : PySem.Str) (f : Addr) (cdv : Value) (A : Around) (outer : List Env) (s : Shared) (H : Hp) (E : XK) (M : Option Mc) (X0 : List Addr)
    (hr : Room 1 (A.deeper (PyProof.Rows.envOfC qual (defScope s__law_pressed) s.heap.objs.size f cdv))) :
    PSs (cxOf CX0 P w K mg base ["table", "row", "letter", "number", "found", "other", "own"] qual (defScope s__law_pressed) f cdv A outer s H E).nox (defBody s__law_pressed) (LS ⟨K, M, X0, H, [4]⟩ t__law_pressedL) :=
  (psd_cons (psd_set 3 sc__law_pressed.nd (pd_ixN rfl 1 (pd_sub (pd_var 2) pd_int)))
  (psd_cons (psd_setO 4 rfl sc__law_pressed.nd (pdf_lst pad_nil))
  (psd_cons (psd_for PassesOwn.never rfl (pid_r2 g_range pd_int (pd_add rfl (pd_lenN rfl g_len 1) pd_int)) (pgd_name 5 sc__law_pressed.nd) (psd_cons (psd_set 6 sc__law_pressed.nd (pd_ixN rfl 1 (pd_sub (pd_var 5) pd_int)))
  (psd_one (psd_app 4 (pd_if (ptd_cmp (OpR.or op_eq (op_eqD hr.units)) (fit_eq rfl) (pd_var 5) (pd_var 2)) (pd_sub pd_int (pd_var 3)) (pd_add rfl (pd_var 6) (pd_mul rfl (pd_call rfl c__law_weight hr (by decide) (pad_cons (pd_var 0) (pad_cons (pd_var 2) (pad_cons (pd_var 5) pad_nil)))) (pd_var 3))))))))
  (psd_one (psd_ret (pd_tupN rfl g_tuple 4))))))
abbrev s__law_row : Stmt := top 57
theorem sc__law_row : FnScope ["table", "word", "row", "letter"] ["table", "word"] (defScope s__law_row) := ⟨rfl, rfl, rfl, by decide +kernel, rfl, by decide +kernel, by decide +kernel⟩
theorem w__law_row {P : Program} {w : World} {K : PySem.W.Frag} {mg : PySem.Str → Option Value} {base : Heap} (g_len : mg "len" = none) (c__law_pressed : CalD P w K mg base 2 "_law_pressed" false sp__law_pressedL) (qual : PySem.Str) (f : Addr) (cdv : Value) (A : Around) (outer : List Env) (s : Shared) (H : Hp) (E : XK) (M : Option Mc) (X0 : List Addr)
    (hr : Room 2 (A.deeper (PyProof.Rows.envOfC qual (defScope s__law_row) s.heap.objs.size f cdv))) :
    PSs (cxOf CX0 P w K mg base ["table", "word", "row", "letter"] qual (defScope s__law_row) f cdv A outer s H E).nox (defBody s__law_row) (LS ⟨K, M, X0, H, []⟩ t__law_rowL) :=
  (psd_cons (psd_set 2 sc__law_row.nd (pd_mul rfl (pd_tup (pad_cons pd_int pad_nil)) (pd_lenN rfl g_len 0)))
  (psd_cons (psd_for PassesOwn.never rfl (pid_seq rfl (pd_var 1)) (pgd_name 3 sc__law_row.nd) (psd_one (psd_set 2 sc__law_row.nd (pd_call rfl c__law_pressed hr (by decide) (pad_cons (pd_var 0) (pad_cons (pd_var 2) (pad_cons (pd_var 3) pad_nil)))))))
  (psd_one (psd_ret (pd_var 2)))))
abbrev s__law_back : Stmt := top 58
theorem sc__law_back : FnScope ["table", "row", "found", "letter", "place"] ["table", "row"] (defScope s__law_back) := ⟨rfl, rfl, rfl, by decide +kernel, rfl, by decide +kernel, by decide +kernel⟩
theorem w__law_back {P : Program} {w : World} {K : PySem.W.Frag} {mg : PySem.Str → Option Value} {base : Heap} (g_min : mg "min" = none) (g_range : mg "range" = none) (g_len : mg "len" = none) (c__law_pressed : CalD P w K mg base 2 "_law_pressed" false sp__law_pressedL) (qual : PySem.Str) (f : Addr) (cdv : Value) (A : Around) (outer : List Env) (s : Shared) (H : Hp) (E : XK) (M : Option Mc) (X0 : List Addr)
    (hr : Room 2 (A.deeper (PyProof.Rows.envOfC qual (defScope s__law_back) s.heap.objs.size f cdv))) :
    PSs (cxOf CX0 P w K mg base ["table", "row", "found", "letter", "place"] qual (defScope s__law_back) f cdv A outer s H E).nox (defBody s__law_back) (LS ⟨K, M, X0, H, [2]⟩ t__law_backL) :=
  (psd_cons (psd_setO 2 rfl sc__law_back.nd (pdf_lst pad_nil))
  (psd_cons (psd_while PassesOwn.never (ptd_cmp op_lt fit_lt (pd_minT rfl g_min rfl (pd_var 1)) pd_int) (psd_cons (psd_set 3 sc__law_back.nd (pd_ix rfl (pd_fr (pdf_lc (own := [("place", 4)]) rfl sc__law_back.nd (pid_r1 g_range (pd_lenN rfl g_len 1)) (blkOk_by (N := ["table", "row", "found", "letter", "place"]) (sc := defScope s__law_back) (by decide +kernel)) (fun sB HB CB clB fpB => (pgd_name 4 sc__law_back.nd)) (fun sB HB CB clB fpB => (ptsd_one (ptd_cmp op_lt fit_lt (pd_ixN rfl 1 (pd_var 4)) pd_int))) (fun sB HB CB clB fpB => (pd_add rfl (pd_var 4) pd_int)))) pd_int))
  (psd_cons (psd_app 2 (pd_var 3))
  (psd_one (psd_set 1 sc__law_back.nd (pd_call rfl c__law_pressed hr (by decide) (pad_cons (pd_var 0) (pad_cons (pd_var 1) (pad_cons (pd_var 3) pad_nil)))))))))
  (psd_one (psd_ret (pd_var 2)))))
abbrev s__law_least : Stmt := top 59
theorem sc__law_least : FnScope ["table", "word"] ["table", "word"] (defScope s__law_least) := ⟨rfl, rfl, rfl, by decide +kernel, rfl, by decide +kernel, by decide +kernel⟩
theorem w__law_least {P : Program} {w : World} {K : PySem.W.Frag} {mg : PySem.Str → Option Value} {base : Heap} (g_tuple : mg "tuple" = none) (g_list : mg "list" = none) (c__law_back : CalD P w K mg base 3 "_law_back" false sp__law_backL) (c__law_row : CalD P w K mg base 3 "_law_row" false sp__law_rowL) (qual : PySem.Str) (f : Addr) (cdv : Value) (A : Around) (outer : List Env) (s : Shared) (H : Hp) (E : XK) (M : Option Mc) (X0 : List Addr)
    (hr : Room 3 (A.deeper (PyProof.Rows.envOfC qual (defScope s__law_least) s.heap.objs.size f cdv))) :
    PSs (cxOf CX0 P w K mg base ["table", "word"] qual (defScope s__law_least) f cdv A outer s H E).nox (defBody s__law_least) (LS ⟨K, M, X0, H, []⟩ t__law_leastL) :=
  (psd_one (psd_ret (pd_tupOf rfl g_tuple (pd_call rfl c__law_back hr (by decide) (pad_cons (pd_var 0) (pad_cons (pd_call rfl c__law_row hr (by decide) (pad_cons (pd_var 0) (pad_cons (pd_rev rfl (pd_fr (pdf_lstN rfl g_list 1))) pad_nil))) pad_nil))))))
abbrev s__law_word : Stmt := top 60
theorem sc__law_word : FnScope ["m", "many", "most", "k"] ["m", "many", "most"] (defScope s__law_word) := ⟨rfl, rfl, rfl, by decide +kernel, rfl, by decide +kernel, by decide +kernel⟩
theorem w__law_word {P : Program} {w : World} {K : PySem.W.Frag} {mg : PySem.Str → Option Value} {base : Heap} (g_range : mg "range" = none) (c__law_draw : CalD P w K mg base 2 "_law_draw" true sp__law_draw) (qual : PySem.Str) (f : Addr) (cdv : Value) (A : Around) (outer : List Env) (s : Shared) (H : Hp) (E : XK) (M : Option Mc) (X0 : List Addr)
    (hr : Room 2 (A.deeper (PyProof.Rows.envOfC qual (defScope s__law_word) s.heap.objs.size f cdv))) :
    PSs (cxOf CX0 P w K mg base ["m", "many", "most", "k"] qual (defScope s__law_word) f cdv A outer s H E).nox (defBody s__law_word) (LS ⟨K, M, X0, H, []⟩ t__law_wordL) :=
  (psd_one (psd_ret (pd_fr (pdf_lc (own := [("k", 3)]) rfl sc__law_word.nd (pid_r1 g_range (pd_callM rfl c__law_draw hr (by decide) 0 (pad_cons (pd_add rfl (pd_var 2) pd_int) pad_nil))) (blkOk_by (N := ["m", "many", "most", "k"]) (sc := defScope s__law_word) (by decide +kernel)) (fun sB HB CB clB fpB => (pgd_name 3 sc__law_word.nd)) (fun sB HB CB clB fpB => pts_none) (fun sB HB CB clB fpB => (pd_add rfl pd_int (pd_callM rfl c__law_draw hr (by decide) 0 (pad_cons (pd_var 1) pad_nil))))))))
abbrev s__law_under : Stmt := top 61
theorem sc__law_under : FnScope ["table", "word", "found", "letter", "row"] ["table", "word"] (defScope s__law_under) := ⟨rfl, rfl, rfl, by decide +kernel, rfl, by decide +kernel, by decide +kernel⟩
theorem w__law_under {P : Program} {w : World} {K : PySem.W.Frag} {mg : PySem.Str → Option Value} {base : Heap} (g_len : mg "len" = none) (g_sorted : mg "sorted" = none) (g_set : mg "set" = none) (c__law_least : CalD P w K mg base 4 "_law_least" false sp__law_leastL) (c__law_pressed : CalD P w K mg base 2 "_law_pressed" false sp__law_pressedL) (qual : PySem.Str) (f : Addr) (cdv : Value) (A : Around) (outer : List Env) (s : Shared) (H : Hp) (E : XK) (M : Option Mc) (X0 : List Addr)
    (hr : Room 4 (A.deeper (PyProof.Rows.envOfC qual (defScope s__law_under) s.heap.objs.size f cdv))) :
    PSs (cxOf CX0 P w K mg base ["table", "word", "found", "letter", "row"] qual (defScope s__law_under) f cdv A outer s H E).nox (defBody s__law_under) (LS ⟨K, M, X0, H, []⟩ t__law_under) :=
  (psd_cons (psd_set 2 sc__law_under.nd (pd_fr (pdf_lst (pad_cons (pd_mul rfl (pd_tup (pad_cons pd_int pad_nil)) (pd_lenN rfl g_len 0)) pad_nil))))
  (psd_cons (psd_for PassesOwn.never rfl (pid_tup rfl (pd_call rfl c__law_least hr (by decide) (pad_cons (pd_var 0) (pad_cons (pd_var 1) pad_nil)))) (pgd_name 3 sc__law_under.nd) (psd_cons (psd_set 2 sc__law_under.nd (pd_add rfl (pd_var 2) (pd_fr (pdf_lc (own := [("row", 4)]) rfl sc__law_under.nd (pid_list rfl (pd_var 2)) (blkOk_by (N := ["table", "word", "found", "letter", "row"]) (sc := defScope s__law_under) (by decide +kernel)) (fun sB HB CB clB fpB => (pgd_name 4 sc__law_under.nd)) (fun sB HB CB clB fpB => pts_none) (fun sB HB CB clB fpB => (pd_call rfl c__law_pressed hr (by decide) (pad_cons (pd_var 0) (pad_cons (pd_var 4) (pad_cons (pd_var 3) pad_nil)))))))))
  (psd_one (psd_set 2 sc__law_under.nd (pd_fr (pdf_sortSetB rfl hr rfl g_sorted g_set (pd_var 2)))))))
  (psd_one (psd_ret (pd_var 2)))))
abbrev s__law_rows_by : Stmt := top 62
theorem sc__law_rows_by : FnScope ["table", "word", "found", "letter", "row"] ["table", "word"] (defScope s__law_rows_by) := ⟨rfl, rfl, rfl, by decide +kernel, rfl, by decide +kernel, by decide +kernel⟩
theorem w__law_rows_by {P : Program} {w : World} {K : PySem.W.Frag} {mg : PySem.Str → Option Value} {base : Heap} (g_len : mg "len" = none) (g_list : mg "list" = none) (g_sorted : mg "sorted" = none) (c__law_pressed : CalD P w K mg base 2 "_law_pressed" false sp__law_pressedL) (qual : PySem.Str) (f : Addr) (cdv : Value) (A : Around) (outer : List Env) (s : Shared) (H : Hp) (E : XK) (M : Option Mc) (X0 : List Addr)
    (hr : Room 2 (A.deeper (PyProof.Rows.envOfC qual (defScope s__law_rows_by) s.heap.objs.size f cdv))) :
    PSs (cxOf CX0 P w K mg base ["table", "word", "found", "letter", "row"] qual (defScope s__law_rows_by) f cdv A outer s H E).nox (defBody s__law_rows_by) (LS ⟨K, M, X0, H, [2]⟩ t__law_rows_by) :=
  (psd_dct hr rfl 2 sc__law_rows_by.nd (pd_mul rfl (pd_tup (pad_cons pd_int pad_nil)) (pd_lenN rfl g_len 0))
  (pss_ddc (ps_ddfor PassesOwn.never rfl (pid_tup rfl (pd_var 1)) (pgd_name 3 sc__law_rows_by.nd) (by decide) (pss_dd1 (ps_ddforK rfl PassesOwn.never rfl g_list (pgd_name 4 sc__law_rows_by.nd) (by decide) (pss_dd1 (ps_ddput hr rfl (pd_call rfl c__law_pressed hr (by decide) (pad_cons (pd_var 0) (pad_cons (pd_var 4) (pad_cons (pd_var 3) pad_nil)))))))))
  (pss_dd1 (ps_ddret hr rfl rfl g_sorted))))
end BW
namespace BW
open PySem L2 DL
abbrev s_shortest_words : Stmt := top 48
theorem sg_shortest_words : GScope ["bonds", "word", "waiting", "front", "row", "low", "letter"] ["bonds", "word"] (defScope s_shortest_words) := ⟨rfl, rfl, rfl, by decide +kernel, rfl, by decide +kernel, by decide +kernel⟩
theorem wG_shortest_words {P : Program} {w : World} {K : PySem.W.Frag} {mg : PySem.Str → Option Value} {base : Heap} {BC : Addr} (g_reversed : mg "reversed" = none) (c_row_to_spell : CalD P w K mg base 5 "row_to_spell" false (sp_row_to_spell BC)) (c_fallen : CalD P w K mg base 1 "fallen" false sp_fallen) (c_pressed : CalD P w K mg base 1 "pressed" false (sp_pressed BC)) (f : Addr) (cdv : Value) (A : Around) (outer : List Env) (s : Shared) (H : Hp) (E : XK) (pn : List (Addr × Obj)) (X0 : List Addr) (Ex : EX)
    (hr : Room 5 (A.deeper (PyProof.Rows.envOfC "shortest_words" (defScope s_shortest_words) s.heap.objs.size f cdv))) (tk : Takes (gcxOf P w K mg base ["bonds", "word", "waiting", "front", "row", "low", "letter"] "shortest_words" (defScope s_shortest_words) f cdv A outer s H E pn) (WL ⟨K, none, X0, H, [2]⟩ Ex)) :
    GSs (gcxOf P w K mg base ["bonds", "word", "waiting", "front", "row", "low", "letter"] "shortest_words" (defScope s_shortest_words) f cdv A outer s H E pn) (defBody s_shortest_words) (LGn ⟨K, none, X0, H, [2]⟩ (tG_shortest_words BC Ex)) :=
  (gd_cons (gd_plain (psd_setO 2 rfl sg_shortest_words.nd (pdf_lst (pad_cons (pd_tup (pad_cons (pd_tup pad_nil) (pad_cons (pd_call rfl c_row_to_spell hr (by decide) (pad_cons (pd_var 0) (pad_cons (pd_var 1) pad_nil))) pad_nil))) pad_nil))))
  (gd_one (gd_while owns_gcx (pt_truN rfl 2) (gd_cons (gd_plain (psd_popA 2 (pgd_tup rfl rfl (pgds_cons (pgd_name 3 sg_shortest_words.nd) (pgds_cons (pgd_name 4 sg_shortest_words.nd) pgds_nil)))))
  (gd_cons (gd_plain (psd_set 5 sg_shortest_words.nd (pd_call rfl c_fallen hr (by decide) (pad_cons (pd_var 4) pad_nil))))
  (gd_cons (gd_if (ptd_not (pt_tru rfl (pd_var 5))) (gd_one (gd_yield (pd_var 3))) gd_nil)
  (gd_one (gd_plain (psd_for owns_gcx rfl (pid_rvT rfl g_reversed (pd_var 5)) (pgd_name 6 sg_shortest_words.nd) (psd_one (psd_app 2 (pd_tup (pad_cons (pd_tup (pad_star rfl (pd_var 3) (pad_cons (pd_var 6) pad_nil))) (pad_cons (pd_call rfl c_pressed hr (by decide) (pad_cons (pd_var 0) (pad_cons (pd_var 4) (pad_cons (pd_var 6) pad_nil)))) pad_nil))))))))))))))
end BW
namespace T7
open PySem L2 DL
abbrev s__law_draw : Stmt := BW.s__law_draw
def sp__law_mixed : DSp := fun ds k R => ∃ a n : Int, ds = [.int a, .int n] ∧ 0 ≤ a ∧ a < 1000000000000000 ∧ 0 ≤ n ∧ n < 1000000000000 ∧ ∀ r, 0 ≤ r → r < 306783377 → R (.int r) k
theorem sc__law_draw : FnScope ["m", "limit", "n", "lot", "here", "cell"] ["m", "limit"] (defScope s__law_draw) := ⟨rfl, rfl, rfl, by decide +kernel, rfl, by decide +kernel, by decide +kernel⟩
def sp__law_draw : DSp := fun ds k R => ∃ z : Int, ds = [.int z] ∧ 0 < z ∧ z < 2 ^ 200 ∧ k < 100000000000 ∧ ∀ d, 0 ≤ d → d < z → R (.int d) (k + 1)
structure Zt (hid X0 : List Addr) (H H' : Hp) : Prop where
  sub : Sub (wo H (hid ++ X0)) (wo H' (hid ++ X0))
  old : ∀ a ∈ X0, H' a = H a
  tb : TbK H H'
theorem Zt.refl {hid X0 : List Addr} {H : Hp} : Zt hid X0 H H := ⟨Sub.refl _, fun _ _ => rfl, .refl⟩
theorem Zt.trans {hid X0 : List Addr} {H H1 H2 : Hp} (a : Zt hid X0 H H1) (b : Zt hid X0 H1 H2) : Zt hid X0 H H2 := ⟨a.sub.trans b.sub, fun x h => (b.old x h).trans (a.old x h), a.tb.trans b.tb⟩
theorem Zt.new {hid X0 : List Addr} {H : Hp} {p : Addr} {o : HO} (hp : H p = none) (xs : ∀ a ∈ X0, H a ≠ none) : Zt hid X0 H (upd H p o) := ⟨wo_new hp, fun a ha => upd_ne fun z => xs a ha (by rw [z]; exact hp), .new hp⟩
theorem Zt.mut {hid X0 : List Addr} {H : Hp} {p : Addr} {o : HO} (hp : p ∈ hid) (xm : ∀ a ∈ X0, a ∉ hid) (tb : TbK H (upd H p o)) : Zt hid X0 H (upd H p o) := ⟨wo_mut (List.mem_append_left _ hp), fun a ha => upd_ne fun z => xm a ha (by rw [z]; exact hp), tb⟩
section
variable {P : Program} {w : World} {K : PySem.W.Frag} {mg : PySem.Str → Option Value} {base : Heap}
theorem call_mixed {K : PySem.W.Frag} {H : Hp} {a n : Int} {Q : VK} {E : XK} {Y : List Addr} (xs : ∀ a ∈ Y, H a ≠ none) (xt : ∀ a ∈ Y, ∀ ps, H a ≠ some (.tbl ps)) (a0 : 0 ≤ a) (a1 : a < 1000000000000000) (n0 : 0 ≤ n) (n1 : n < 1000000000000) (h : ∀ r, 0 ≤ r → r < 306783377 → ∀ H', Sub (wo H Y) (wo H' Y) → (∀ a ∈ Y, H' a = H a) → TbK H H' → Q (.int r) H') :
    spD K false sp__law_mixed [.int a, .int n] H Q E := by
  refine ⟨none, Y, 0, [.int a, .int n], _, fun d _ => ∃ r, d = .int r ∧ 0 ≤ r ∧ r < 306783377, ⟨rfl, rfl⟩, ⟨fun _ _ => by simp [Ml], xs, trivial, .cons (.int _) (.cons (.int _) .nil), xt⟩, ⟨a, n, rfl, a0, a1, n0, n1, fun r r0 r1 => ⟨r, rfl, r0, r1⟩⟩, ?_⟩
  rintro d k' ⟨r, rfl, r0, r1⟩ v H' af er
  cases er.intE
  exact h r r0 r1 H' af.sub af.old af.tb
theorem ixN_nat {n j : Nat} (hj : j < n) : ixN n (j : Int) = some j := by
  unfold ixN
  rw [if_pos (by omega), if_pos (by omega)]
  simp
theorem mk_inv {n : Nat} {pc pg : Addr} : valV [((Sum.inr "cells" : Key), V.ref pc), (Sum.inr "great", .ref pg), (Sum.inr "spot", .int n)] (Sum.inr "spot") = some (.int n) := by rfl
theorem mk_gr {n : Int} {pc pg : Addr} : valV [((Sum.inr "cells" : Key), V.ref pc), (Sum.inr "great", .ref pg), (Sum.inr "spot", .int n)] (Sum.inr "great") = some (.ref pg) := by rfl
theorem mk_ce {n : Int} {pc pg : Addr} : valV [((Sum.inr "cells" : Key), V.ref pc), (Sum.inr "great", .ref pg), (Sum.inr "spot", .int n)] (Sum.inr "cells") = some (.ref pc) := by rfl
theorem mk_put {n j : Int} {pc pg : Addr} : putK [((Sum.inr "cells" : Key), V.ref pc), (Sum.inr "great", .ref pg), (Sum.inr "spot", .int n)] (Sum.inr "spot") (.int j) = [((Sum.inr "cells" : Key), V.ref pc), (Sum.inr "great", .ref pg), (Sum.inr "spot", .int j)] := by rfl
theorem ok__law_draw {f fm : Addr} {fd : FuncData} (F : Fun K "_law_draw" "_law_draw" s__law_draw f fd) (c__law_mixed : CalD P w K mg base 1 "_law_mixed" false sp__law_mixed) (g_len : mg "len" = none) (g_int : mg "int" = none) : FnOk P w K mg base CX0 2 f fd ["m", "limit"] (spD K true sp__law_draw) := by
  refine F.ok sc__law_draw (fun vs H Q E h => ?_) (fun cdv A outer s H vs Q E hr h => ?_)
  · obtain ⟨M, X0, k, ds, ws, R, ⟨m, _, rfl⟩, a, ⟨z, rfl, _⟩, _⟩ := h
    have := a.args.len
    rw [List.length_cons, this]
    rfl
  · obtain ⟨M, X0, k, ds, ws, R, ⟨m, ⟨rfl, hkd⟩, rfl⟩, ⟨xm, xs, hmat, ar, xt⟩, ⟨z, rfl, z0, z1, hk, hR⟩, fin⟩ := h
    obtain ⟨cs, gs, n, mo, hnk, htb⟩ := hmat.dr hkd
    cases ar with
    | cons e1 e2 =>
      cases e2
      cases e1.intE
      obtain ⟨fm, fdm, psm, Gm, hmm, kpm, bm⟩ := c__law_mixed.ex
      have hu := hu_of hr
      refine ⟨_, pss_cons (ps_set (i := 2) sc__law_draw.nd rfl (.inl rfl) (pe_dget hu (pv 0) pe_str (fun _ _ => rfl)))
        (pss_cons (ps_dput hu (pv 0) pe_str (pe_op op_add (pv 2) pe_int) rfl)
        (pss_cons (ps_if (pt_cmpR (op_neD hr.units) (pe_dget hu (pv 0) pe_str (fun _ _ => rfl)) (pe_lst pa_nil) (nomark _))
          (pss_cons (ps_set (i := 3) sc__law_draw.nd rfl (.inl rfl) (pe_dget hu (pv 0) pe_str (fun _ _ => rfl)))
          (pss_cons (ps_set (i := 4) sc__law_draw.nd rfl (.inl rfl) (pe_op op_mod (pe_callTy call_int1 rfl g_int PyProof.Rows.boot_int (pa_cons (pv 2) pa_nil)) (pe_callB call_len_seq rfl g_len PySem.boot_len (pa_cons (pv 3) pa_nil))))
          (pss_cons (ps_set (i := 5) sc__law_draw.nd rfl (.inl rfl) (pe_ix ix_list (pv 3) (pv 4) (fun _ _ => rfl)))
          (pss_one (ps_if (pt_cmpR op_gt (pv 5) pe_int (nomark _))
            (pss_cons (ps_asg (pe_op op_fdivW (pv 5) (pv 1)) (pg_sub (pv 3) (pv 4) set_list)) (pss_one (ps_ret (pe_op op_mod (pe_callTy call_int1 rfl g_int PyProof.Rows.boot_int (pa_cons (pv 5) pa_nil)) (pv 1)))))
            pss_nil)))))
          pss_nil)
        (pss_cons (ps_set (i := 3) sc__law_draw.nd rfl (.inl rfl) (pe_dget hu (pv 0) pe_str (fun _ _ => rfl)))
        (pss_one (ps_ret (pe_op op_mod (pe_callTy call_int1 rfl g_int PyProof.Rows.boot_int (pa_cons (pe_call Gm hr rfl hmm kpm bm .nil pass0 (pa_cons (pe_call Gm hr rfl hmm kpm bm .nil pass0 (pa_cons (pe_op op_add (pe_ix ix_list (pv 3) (pe_op op_mod (pe_callTy call_int1 rfl g_int PyProof.Rows.boot_int (pa_cons (pv 2) pa_nil)) pe_int) (fun _ _ => rfl)) (pe_op op_mul pe_int (pe_op op_fdiv (pv 2) pe_int))) (pa_cons (pv 2) pa_nil)))
          (pa_cons (pe_op op_add (pv 2) pe_int) pa_nil))) pa_nil)) (pv 1))))))), ?_⟩
      have ne1 : m.pg ≠ m.pm := fun q => by have h := mo.hg; rw [q, mo.hm] at h; cases h
      have ne2 : m.pc ≠ m.pm := fun q => by have h := mo.hc; rw [q, mo.hm] at h; cases h
      have npcg : m.pc ≠ m.pg := fun q => by
        have h := mo.hg
        rw [← q, mo.hc] at h
        have h := congrArg List.length (HO.lst.inj (Option.some.inj h))
        rw [List.length_map, List.length_map, mo.lc] at h
        have := mo.lg
        omega
      have in1 : m.pm ∈ Ml (some m) := by simp [Ml]
      have in2 : m.pg ∈ Ml (some m) := by simp [Ml]
      -- n = m['spot']; m['spot'] = n + 1
      refine ⟨_, rfl, _, _, rfl, (mk_inv (n := n)) ▸ DGet.k (k := Sum.inr "spot") mo.hm, ?_⟩
      refine ⟨_, rfl, _, _, rfl, rfl, _, rfl, _, _, rfl, DPut.k (k := Sum.inr "spot") mo.hm (by show 3 < sizeLine; decide), ?_⟩
      rw [mk_put]
      generalize hH1 : upd H m.pm (.dK [((Sum.inr "cells" : Key), V.ref m.pc), (Sum.inr "great", .ref m.pg), (Sum.inr "spot", .int ((n : Int) + 1))]) = H1
      have hm1 : H1 m.pm = some (.dK [((Sum.inr "cells" : Key), V.ref m.pc), (Sum.inr "great", .ref m.pg), (Sum.inr "spot", .int ((n : Int) + 1))]) := by rw [← hH1]; exact upd_same
      have hc1 : H1 m.pc = some (.lst (cs.map V.int)) := by rw [← hH1, upd_ne ne2]; exact mo.hc
      have hg1 : H1 m.pg = some (.lst (gs.map V.int)) := by rw [← hH1, upd_ne ne1]; exact mo.hg
      have z01 : Zt (Ml (some m)) X0 H H1 := by rw [← hH1]; exact Zt.mut in1 xm (.at_ mo.hm)
      have xs1 : ∀ a ∈ X0, H1 a ≠ none := fun a ha => by rw [z01.old a ha]; exact xs a ha
      clear hH1
      -- m['great'] != []
      refine ⟨_, rfl, _, _, rfl, mk_gr (n := (n : Int) + 1) ▸ DGet.k (k := Sum.inr "great") hm1, Nat.zero_le _, fun p hp => ?_⟩
      generalize hH2 : upd H1 p (.lst []) = H2
      have kp : Sub H1 H2 := fun b o e => by rw [← hH2, upd_ne (ne_of_none e hp)]; exact e
      have hm2 := kp _ _ hm1
      have hc2 := kp _ _ hc1
      have hg2 := kp _ _ hg1
      have z02 : Zt (Ml (some m)) X0 H H2 := z01.trans (by rw [← hH2]; exact Zt.new hp xs1)
      have xs2 : ∀ a ∈ X0, H2 a ≠ none := fun a ha => by rw [z02.old a ha]; exact xs a ha
      have np : H2 p = some (.lst []) := by rw [← hH2]; exact upd_same
      clear hH2
      have dp : Dp K H2 (.ref m.pg) (.list (gs.map PyData.int)) := by
        have q := Rl.dp (K := K) (H := H2) (.lst (gs.map D.int)) (.lst hg2 (RlA.ints gs)) (plain_ints gs)
        show Dp K H2 (.ref m.pg) (.list (gs.map PyData.int))
        rw [← py_ints gs]
        exact q
      have sh : SeqAt.shaped (.list (gs.map PyData.int)) = true := by
        have q := okE_lstI gs
        unfold D.okE at q
        have q2 := (Bool.and_eq_true_iff.mp q).2
        have e : (D.lst (gs.map D.int)).py = .list (gs.map PyData.int) := by
          show PyData.list (pyA (gs.map D.int)) = _
          rw [py_ints]
        rw [e] at q2
        exact q2
      refine ⟨.list (gs.map PyData.int), .list [], dp, .lst (SqL.of np) .nil, sh, by decide, _, rfl, ?_⟩
      have ev : PyData.eqv (.list (gs.map PyData.int)) (.list []) = decide (gs = []) := by
        have q := eqv_ints gs []
        exact q
      rw [ev]
      -- the end: a remainder of something by z
      have fin' : ∀ (r : Int) (H' : Hp), Zt (Ml (some m)) X0 H H' → (∃ cs gs, MOk m H' cs gs (n + 1)) → Q (.int (r % z)) H' := fun r H' zt ⟨cs', gs', mo'⟩ =>
        fin (.int (r % z)) (k + 1) (hR _ (Int.emod_nonneg _ (by omega)) (Int.emod_lt_of_pos _ z0)) _ H' ⟨zt.sub, zt.old, .of hkd ⟨cs', gs', n + 1, mo', by omega, zt.tb.tabs _ htb⟩, zt.tb⟩ (.int _)
      -- behind the if: a cell is mixed
      have low : ∀ v : Option V, ∀ v4 v5 : Option V, (tSeq (tAsg (tDGet (tVar 0) (tC (.str "cells"))) (gName 3)) (tRet (tOp (rI (fun _ j => 0 < j) fun i j => .int (i % j)) (tCB (fun xs H Q => (∃ i, xs = [.int i] ∧ Q (.int i) H) ∨ ∃ k, xs = [.bl k] ∧ Q (.int (if k then 1 else 0)) H) (tCons (tCall (spD K false sp__law_mixed) [] E0 (tCons (tCall (spD K false sp__law_mixed) [] E0 (tCons (tOp (rI0 fun i j => .int (i + j)) (tOp (rIxL K) (tVar 3) (tOp (rI (fun _ j => 0 < j) fun i j => .int (i % j)) (tCB (fun xs H Q => (∃ i, xs = [.int i] ∧ Q (.int i) H) ∨ ∃ k, xs = [.bl k] ∧ Q (.int (if k then 1 else 0)) H) (tCons (tVar 2) tNil)) (tC (.int 64)))) (tOp (rI CMul fun i j => .int (i * j)) (tC (.int 31)) (tOp (rI CDiv fun i j => .int (i / j)) (tVar 2) (tC (.int 64))))) (tCons (tVar 2) tNil))) (tCons (tOp (rI0 fun i j => .int (i + j)) (tVar 2) (tC (.int 7))) tNil))) tNil)) (tVar 1))))
          { nx := fun _ H' => Q .non H', rt := Q } [some (.ref m.pm), some (.int z), some (.int n), v, v4, v5] H2 := fun v v4 v5 => by
        refine ⟨_, rfl, _, _, rfl, mk_ce (n := (n : Int) + 1) ▸ DGet.k (k := Sum.inr "cells") hm2, ?_⟩
        have hi : n % 64 < cs.length := by rw [mo.lc]; exact Nat.mod_lt _ (by decide)
        obtain ⟨x, hx⟩ : ∃ x, cs[n % 64]? = some x := ⟨cs[n % 64], by simp [hi]⟩
        have bx := mo.bc x (List.mem_of_getElem? hx)
        refine ⟨_, rfl, _, rfl, .inl ⟨_, rfl, _, _, rfl, rfl, by show (0 : Int) < 64; decide, _, _, _, V.int x, rfl, rfl, SqL.of hc2, ?_, ?_⟩⟩
        · have e : ((n : Int) % 64) = ((n % 64 : Nat) : Int) := by omega
          rw [e]
          exact atI_nat (by rw [List.getElem?_map, hx]; rfl)
        refine ⟨_, rfl, _, _, rfl, rfl, ⟨by decide, by decide⟩, _, _, rfl, rfl, .inl ⟨by decide, by decide⟩, _, _, rfl, rfl, _, rfl, ?_⟩
        have hY : ∀ a ∈ Ml (some m) ++ X0, H2 a ≠ none := fun a ha => by
          rcases List.mem_append.mp ha with ha | ha
          · simp [Ml] at ha
            rcases ha with rfl | rfl | rfl
            · rw [hm2]; simp
            · rw [hc2]; simp
            · rw [hg2]; simp
          · exact xs2 a ha
        have tY : ∀ a ∈ Ml (some m) ++ X0, ∀ ps, H2 a ≠ some (.tbl ps) := fun a ha ps => by
          rcases List.mem_append.mp ha with ha | ha
          · simp [Ml] at ha
            rcases ha with rfl | rfl | rfl
            · rw [hm2]; intro e; cases e
            · rw [hc2]; intro e; cases e
            · rw [hg2]; intro e; cases e
          · rw [z02.old a ha]; exact xt a ha ps
        refine call_mixed (E := E0) hY tY (by omega) (by omega) (by omega) (by omega) fun r r0 r1 H3 s3 o3 t3 => ?_
        refine ⟨_, rfl, _, _, rfl, rfl, ?_⟩
        refine call_mixed (E := E0) (fun a ha => by rw [o3 a ha]; exact hY a ha) (fun a ha => by rw [o3 a ha]; exact tY a ha) (by omega) (by omega) (by omega) (by omega) fun r' r0' r1' H4 s4 o4 t4 => ?_
        refine .inl ⟨_, rfl, _, rfl, _, _, rfl, rfl, z0, ?_⟩
        have o24 : ∀ a ∈ Ml (some m) ++ X0, H4 a = H2 a := fun a ha => (o4 a ha).trans (o3 a ha)
        have z04 : Zt (Ml (some m)) X0 H H4 := z02.trans ⟨s3.trans s4, fun a ha => o24 a (List.mem_append_right _ ha), t3.trans t4⟩
        exact fin' r' H4 z04 ⟨cs, gs, ⟨(o24 _ (by simp [Ml])).trans hm2, (o24 _ (by simp [Ml])).trans hc2, (o24 _ (by simp [Ml])).trans hg2, mo.lc, mo.bc, mo.lg, mo.bg⟩⟩
      by_cases hgs : gs = []
      · rw [decide_eq_true hgs]
        exact iteF (low _ _ _)
      · rw [decide_eq_false hgs]
        refine iteT ?_
        have lp : 0 < gs.length := List.length_pos_iff.mpr hgs
        refine ⟨_, rfl, _, _, rfl, mk_gr (n := (n : Int) + 1) ▸ DGet.k (k := Sum.inr "great") hm2, ?_⟩
        refine ⟨_, rfl, .inl ⟨_, rfl, _, rfl, _, _, rfl, .inl (SqL.of hg2), _, _, rfl, rfl, by rw [List.length_map]; omega, ?_⟩⟩
        have hi : n % gs.length < gs.length := Nat.mod_lt _ lp
        obtain ⟨x, hx⟩ : ∃ x, gs[n % gs.length]? = some x := ⟨gs[n % gs.length], by simp [hi]⟩
        have bx := mo.bg x (List.mem_of_getElem? hx)
        have en : ((n : Int) % ((gs.map V.int).length : Int)) = ((n % gs.length : Nat) : Int) := by rw [List.length_map]; omega
        refine ⟨_, rfl, _, rfl, _, _, _, V.int x, rfl, rfl, SqL.of hg2, by rw [en]; exact atI_nat (by rw [List.getElem?_map, hx]; rfl), ?_⟩
        refine ⟨_, rfl, _, _, rfl, rfl, _, rfl, ?_⟩
        by_cases hx0 : 0 < x
        · rw [decide_eq_true hx0]
          refine iteT ?_
          refine ⟨_, rfl, _, rfl, _, _, rfl, rfl, ⟨z0, ?_⟩, _, rfl, _, rfl, _, _, _, n % gs.length, rfl, rfl, hg2, ?_, ?_⟩
          · have : z.natAbs < 2 ^ 200 := by omega
            exact Nat.lt_of_lt_of_le (PySem.Flt.log2_lt_of (by decide) this) (by decide)
          · rw [en]; exact ixN_nat (by rw [List.length_map]; exact hi)
          · refine ⟨_, rfl, .inl ⟨_, rfl, _, rfl, _, _, rfl, rfl, z0, ?_⟩⟩
            have ne3 : m.pc ≠ m.pg := npcg
            refine fin' x _ (z02.trans (Zt.mut in2 xm (.at_ hg2))) ⟨cs, gs.set (n % gs.length) (x / z), ⟨?_, ?_, ?_, mo.lc, mo.bc, ?_, ?_⟩⟩
            · rw [upd_ne ne1.symm]; exact hm2
            · rw [upd_ne ne3]; exact hc2
            · rw [upd_same, List.map_set]
            · rw [List.length_set]; exact mo.lg
            · intro y hy
              rcases List.mem_or_eq_of_mem_set hy with h | h
              · exact mo.bg y h
              · rw [h]; exact Int.ediv_nonneg (by omega) (by omega)
        · rw [decide_eq_false hx0]
          exact iteF (low _ _ _)
end
end T7
namespace T7
open PySem L2 DL PyProof.Rows
abbrev s__law_folded : Stmt := BW.s__law_folded
theorem sc__law_folded : FnScope ["script", "found", "n", "cell"] ["script"] (defScope s__law_folded) := ⟨rfl, rfl, rfl, by decide +kernel, rfl, by decide +kernel, by decide +kernel⟩
abbrev t__law_folded : DS := (dSeq (dSetO 1 (dLc (iR1 (dC (.int 64))) (dgN 2) dY (dOp oAdd (dC (.int 17)) (dVar 2)) [2]))
  (dSeq (dFor (iScE 0) (dgTup 2 (dgCons (dgN 2) (dgCons (dgN 3) dgNil))) (dSix 1 (dOp oMod (dInt (dVar 2)) (dC (.int 64))) (dOp oMod (dInt (dOp oAdd (dOp oMul (dIxN 1 (dOp oMod (dInt (dVar 2)) (dC (.int 64)))) (dC (.int 48271))) (dVar 3))) (dC (.int 2147483647)))))
  (dSeq (dFor (iR2 (dC (.int 1)) (dC (.int 64))) (dgN 2) (dSix 1 (dVar 2) (dOp oMod (dInt (dOp oAdd (dIxN 1 (dVar 2)) (dOp oMul (dIxN 1 (dOp oSub (dVar 2) (dC (.int 1)))) (dC (.int 16807))))) (dC (.int 2147483647)))))
  (dRet (dVar 1)))))
theorem w__law_folded {P : Program} {w : World} {K : PySem.W.Frag} {mg : PySem.Str → Option Value} {base : Heap} (g_range : mg "range" = none) (g_enumerate : mg "enumerate" = none) (g_int : mg "int" = none) (qual : PySem.Str) (f : Addr) (cdv : Value) (A : Around) (outer : List Env) (s : Shared) (H : Hp) (E : XK) (M : Option Mc) (X0 : List Addr)
    (hr : Room 0 (A.deeper (PyProof.Rows.envOfC qual (defScope s__law_folded) s.heap.objs.size f cdv))) :
    PSs (cxOf CX0 P w K mg base ["script", "found", "n", "cell"] qual (defScope s__law_folded) f cdv A outer s H E).nox (defBody s__law_folded) (LS ⟨K, M, X0, H, [1]⟩ t__law_folded) :=
  (psd_cons (psd_setLcO 1 (own := [("n", 2)]) rfl sc__law_folded.nd (pid_r1 g_range pd_int) (blkOk_by (N := ["script", "found", "n", "cell"]) (sc := defScope s__law_folded) (by decide +kernel)) (fun _ _ _ _ _ => (pgd_name 2 sc__law_folded.nd)) (fun _ _ _ _ _ => pts_none) (fun _ _ _ _ _ => (pd_add rfl pd_int (pd_var 2))))
  (psd_cons (psd_for PassesOwn.never rfl (pid_scrE rfl 0 g_enumerate) (pgd_tup rfl rfl (pgds_cons (pgd_name 2 sc__law_folded.nd) (pgds_cons (pgd_name 3 sc__law_folded.nd) pgds_nil))) (psd_one (psd_six 1 (pd_mod (pd_int1 g_int (pd_var 2)) pd_int) (pd_mod (pd_int1 g_int (pd_add rfl (pd_mul rfl (pd_ixN rfl 1 (pd_mod (pd_int1 g_int (pd_var 2)) pd_int)) pd_int) (pd_var 3))) pd_int))))
  (psd_cons (psd_for PassesOwn.never rfl (pid_r2 g_range pd_int pd_int) (pgd_name 2 sc__law_folded.nd) (psd_one (psd_six 1 (pd_var 2) (pd_mod (pd_int1 g_int (pd_add rfl (pd_ixN rfl 1 (pd_var 2)) (pd_mul rfl (pd_ixN rfl 1 (pd_sub (pd_var 2) pd_int)) pd_int))) pd_int))))
  (psd_one (psd_ret (pd_var 1))))))
def sp__law_folded : List Int → (D → Prop) → Prop := fun ns R => ∀ cs : List Int, cs.length = 64 → (∀ x ∈ cs, 0 ≤ x ∧ x < 2147483647) → R (.lst (cs.map .int))
theorem r__law_folded (ns : List Int) (R : D → Prop) (h : sp__law_folded ns R) : t__law_folded { nx := fun _ => R .non, rt := fun d _ => R d } ⟨[], .scr ns :: List.replicate (4 - 1) .no, 0⟩ := by
  refine ⟨_, rfl, by decide, by decide, by decide, fun p hp => ⟨fun i acc k => k = 0 ∧ ∃ cs : List Int, acc = cs.map .int ∧ cs.length = i ∧ ∀ x ∈ cs, 0 ≤ x ∧ x < 2147483647, ?_, ?_, ?_⟩⟩
  · exact ⟨rfl, [], rfl, rfl, fun _ h => (nomatch h)⟩
  · rintro i d acc k hd ⟨rfl, cs, rfl, rfl, hc⟩ hl
    obtain ⟨hi, rfl⟩ := rngD_at hd
    have hi : cs.length < 64 := hi
    refine iteT ⟨_, rfl, ?_⟩
    refine ⟨rfl, cs ++ [17 + (0 + (cs.length : Int))], ?_, by simp, ?_⟩
    · rw [List.map_append]; rfl
    · intro x hx
      rcases List.mem_append.mp hx with h | h
      · exact hc x h
      · simp at h
        omega
  · rintro acc k ⟨rfl, cs, rfl, hc, hb⟩ hl q hq
    have hc : cs.length = 64 := by rw [hc, rngD_len]; rfl
    refine ⟨ns, rfl, fun i s' => ∃ (cs : List Int) (x y : Sl), s' = ⟨[q], [.scr ns, .own q (cs.map .int), x, y], 0⟩ ∧ cs.length = 64 ∧ ∀ x ∈ cs, 0 ≤ x ∧ x < 2147483647, ?_, ?_, ?_⟩
    · exact ⟨cs, _, _, rfl, hc, hb⟩
    · rintro i d s' hd ⟨cs, x, y, rfl, hc, hb⟩
      obtain ⟨e, he, rfl⟩ := enum_at hd
      rw [List.getElem?_map] at he
      obtain ⟨c, hc', rfl⟩ := Option.map_eq_some_iff.mp he
      refine ⟨rfl, rfl, ?_⟩
      have hj : i % 64 < cs.length := by rw [hc]; exact Nat.mod_lt _ (by decide)
      obtain ⟨v, hv⟩ : ∃ v, cs[i % 64]? = some v := ⟨cs[i % 64], by simp [hj]⟩
      have bv := hb v (List.mem_of_getElem? hv)
      have ei : (((0 + i : Nat) : Int) % 64) = ((i % 64 : Nat) : Int) := by omega
      have hv' : (cs.map D.int)[i % 64]? = some (.int v) := by rw [List.getElem?_map, hv]; rfl
      refine ⟨_, _, rfl, ?_⟩
      refine ⟨_, rfl, _, rfl, _, rfl, by omega, _, .int v, rfl, by rw [ei]; exact atI_nat hv', ?_⟩
      refine ⟨Or.inl ⟨by omega, by omega⟩, _, rfl, _, rfl, by omega, ?_⟩
      refine ⟨_, rfl, _, rfl, by omega, _, _, rfl, by rw [ei]; exact ixN_nat (by rw [List.length_map]; exact hj), ?_⟩
      refine ⟨cs.set (i % 64) ((v * 48271 + c) % 2147483647), _, _, by rw [List.map_set]; rfl, by rw [List.length_set]; exact hc, fun z hz => ?_⟩
      rcases List.mem_or_eq_of_mem_set hz with h | h
      · exact hb z h
      · omega
    · rintro s' ⟨cs, x, y, rfl, hc, hb⟩
      refine ⟨_, _, rfl, rfl, ⟨by decide, by decide, by decide, by decide⟩, fun i s' => ∃ (cs : List Int) (x : Sl), s' = ⟨[q], [.scr ns, .own q (cs.map .int), x, y], 0⟩ ∧ cs.length = 64 ∧ ∀ x ∈ cs, 0 ≤ x ∧ x < 2147483647, ⟨cs, _, rfl, hc, hb⟩, ?_, ?_⟩
      · rintro i d s' hd ⟨cs, x, rfl, hc, hb⟩
        obtain ⟨hi, rfl⟩ := rngD_at hd
        have hi : i < 63 := hi
        have j1 : i + 1 < cs.length := by omega
        have j0 : i < cs.length := by omega
        obtain ⟨v, hv⟩ : ∃ v, cs[i + 1]? = some v := ⟨cs[i + 1], by simp [j1]⟩
        obtain ⟨u, hu⟩ : ∃ u, cs[i]? = some u := ⟨cs[i], by simp [j0]⟩
        have bv := hb v (List.mem_of_getElem? hv)
        have bu := hb u (List.mem_of_getElem? hu)
        have hv' : (cs.map D.int)[i + 1]? = some (.int v) := by rw [List.getElem?_map, hv]; rfl
        have hu' : (cs.map D.int)[i]? = some (.int u) := by rw [List.getElem?_map, hu]; rfl
        have e1 : (1 + (i : Int)) = ((i + 1 : Nat) : Int) := by omega
        have e0 : (1 + (i : Int) - 1) = (i : Int) := by omega
        refine ⟨_, _, rfl, ?_⟩
        refine ⟨_, rfl, _, rfl, _, .int v, rfl, by rw [e1]; exact atI_nat hv', ?_⟩
        refine ⟨_, rfl, _, rfl, _, .int u, rfl, by rw [e0]; exact atI_nat hu', ?_⟩
        refine ⟨Or.inl ⟨by omega, by omega⟩, _, rfl, by omega, ?_⟩
        refine ⟨_, rfl, _, _, rfl, by rw [e1]; exact ixN_nat (by rw [List.length_map]; exact j1), ?_⟩
        refine ⟨cs.set (i + 1) ((v + u * 16807) % 2147483647), _, by rw [List.map_set]; rfl, by rw [List.length_set]; exact hc, fun z hz => ?_⟩
        rcases List.mem_or_eq_of_mem_set hz with h | h
        · exact hb z h
        · omega
      · rintro s' ⟨cs, x, rfl, hc, hb⟩ X
        exact ⟨_, rfl, h cs hc hb⟩
theorem ok__law_folded {P : Program} {w : World} {K : PySem.W.Frag} {mg : PySem.Str → Option Value} {base : Heap} {f : Addr} {fd : FuncData} (F : Fun K "_law_folded" "_law_folded" s__law_folded f fd) (g_range : mg "range" = none) (g_enumerate : mg "enumerate" = none) (g_int : mg "int" = none) : FnOk P w K mg base CX0 1 f fd ["script"] (spS K sp__law_folded) :=
  okS F sc__law_folded [1] ⟨t__law_folded, fun cdv A outer s H E hr => w__law_folded g_range g_enumerate g_int _ f cdv A outer s H E none [] hr, r__law_folded⟩
end T7
namespace T7
open PySem L2 DL
abbrev s__law_begun : Stmt := BW.s__law_begun
theorem sc__law_begun : FnScope ["script", "m", "cell"] ["script"] (defScope s__law_begun) := ⟨rfl, rfl, rfl, by decide +kernel, rfl, by decide +kernel, by decide +kernel⟩
def spBegun (K : PySem.W.Frag) : Sp := fun vs H Q _ => ∃ (a : Addr) (ns : List Int), vs = [.ref a] ∧ SqL K H a (ns.map V.int) ∧ ns.length ≤ 63 ∧ ∀ (m : Mc) (H' : Hp) (cs gs : List Int), TbK H H' → MOk m H' cs gs 0 → Q (.ref m.pm) H'
theorem PE.ex {X : Cx} {e : Expr} {K : PySem.W.Frag} {f : C → TE} (h : ∀ c, c.K = K → PE X e (f c)) : PE X e (fun σ H Q => ∃ c, c.K = K ∧ f c σ H Q) := ⟨fun pins s σ H Q I ⟨c, hc, q⟩ => (h c hc).run pins s σ H Q I q⟩
theorem rep0 {K : PySem.W.Frag} {H : Hp} {a : Addr} {ns : List Int} {σ : L2.St} {n : Nat} (h : SqL K H a (ns.map V.int)) (e : σ[0]? = some (some (.ref a))) (hl : σ.length = n + 1) : Rep ⟨K, none, [], H, []⟩ ⟨[], .scr ns :: List.replicate n .no, 0⟩ σ H := by
  refine ⟨Sub.refl _, fun _ h => (nomatch h), fun _ h => h, fun _ h => (nomatch h), fun _ h => (nomatch h), trivial, fun i z e' => ?_, fun i j p q ds es e' _ _ => ?_, ?_, .refl, fun _ h => (nomatch h)⟩
  · cases i with
    | zero =>
      obtain rfl : Sl.scr ns = z := Option.some.inj e'
      exact ⟨a, e, sl_in h⟩
    | succ i =>
      have e' : (List.replicate n Sl.no)[i]? = some z := e'
      rw [List.getElem?_replicate] at e'
      split at e'
      · cases e'; trivial
      · cases e'
  · have e' : (Sl.scr ns :: List.replicate n Sl.no)[i]? = some (.own p ds) := e'
    have mem := List.mem_of_getElem? e'
    simp at mem
  · show (Sl.scr ns :: List.replicate n Sl.no).length = σ.length
    simp [hl]
section
variable {P : Program} {w : World} {K : PySem.W.Frag} {mg : PySem.Str → Option Value} {base : Heap}
theorem ok__law_begun {f ff : Addr} {fd fdf : FuncData} (F : Fun K "_law_begun" "_law_begun" s__law_begun f fd) (Gf : FnOk P w K mg base CX0 1 ff fdf ["script"] (spS K sp__law_folded)) (hmf : mg "_law_folded" = some (.ref ff)) (kpf : PySem.W.keepIn K (.ref ff) = true) (bf : Binds K fdf ["script"] []) : FnOk P w K mg base CX0 2 f fd ["script"] (spBegun K) := by
  refine F.ok sc__law_begun (fun vs H Q E h => ?_) (fun cdv A outer s H vs Q E hr h => ?_)
  · obtain ⟨a, ns, rfl, _⟩ := h
    rfl
  · obtain ⟨a, ns, rfl, ha, hl, fin⟩ := h
    have hu := hu_of hr
    refine ⟨_, pss_cons (ps_set (i := 1) sc__law_begun.nd rfl (.inl rfl) (pe_disp (pps_cons pe_str (pe_call Gf hr rfl hmf kpf bf .nil pass0 (pa_cons (pv 0) pa_nil)) (pps_cons pe_str (pe_lst pa_nil) (pps_cons pe_str pe_int pps_nil))) rfl rfl (by simp) (by decide)))
      (pss_cons (ps_dput hu (pv 1) pe_str (PE.ex (K := K) (f := fun c => LF c (dLc (iScr 0) (dgN 2) dY (dIf (dTB (dOp oGe (dVar 2) (dOp oPow (dC (.int 10)) (dC (.int 18))))) (dVar 2) (dC (.int 0))) [2])) fun c hc => (pdf_lc (own := [("cell", 2)]) rfl sc__law_begun.nd (pid_scr hc 0) (blkOk_by (N := ["script", "m", "cell"]) (sc := defScope s__law_begun) (by decide +kernel)) (fun _ _ _ _ _ => (pgd_name 2 sc__law_begun.nd)) (fun _ _ _ _ _ => pts_none) (fun _ _ _ _ _ => (pd_if (ptd_cmp op_ge fit_ge (pd_var 2) (pd_pow pd_int pd_int)) (pd_var 2) pd_int)))) rfl)
      (pss_one (ps_ret (pv 1)))), ?_⟩
    intro p hp
    have s1 : Sub H (upd H p (.dK [])) := fun b o e => by rw [upd_ne (ne_of_none e hp)]; exact e
    refine ⟨_, rfl, ?_⟩
    refine ⟨a, ns, fun d => ∃ cs : List Int, d = .lst (cs.map .int) ∧ cs.length = 64 ∧ ∀ x ∈ cs, 0 ≤ x ∧ x < 2147483647, rfl, s1.sl ha, fun cs h1 h2 => ⟨cs, rfl, h1, h2⟩, ?_⟩
    rintro d ⟨cs, rfl, hc, hb⟩ v H2 s2 t2 rv
    obtain ⟨pc, vs, rfl, hpc, ra⟩ := rv.lstE
    obtain rfl := ra.ints_v
    have p2 : H2 p = some (.dK []) := s2.out upd_same
    refine ⟨Nat.zero_le _, fun q hq => ?_⟩
    have nqp : p ≠ q := ne_of_none p2 hq
    refine ⟨by rw [upd_ne nqp]; exact p2, [(Sum.inr "cells", .ref pc), (Sum.inr "great", .ref q), (Sum.inr "spot", .int 0)], rfl, by show 3 ≤ 15; decide, ?_⟩
    have mk : mergeK [] [((Sum.inr "cells" : Key), V.ref pc), (Sum.inr "great", .ref q), (Sum.inr "spot", .int 0)] = [((Sum.inr "cells" : Key), V.ref pc), (Sum.inr "great", .ref q), (Sum.inr "spot", .int 0)] := by rfl
    rw [mk]
    generalize hH4 : upd (upd H2 q (.lst [])) p (.dK [((Sum.inr "cells" : Key), V.ref pc), (Sum.inr "great", .ref q), (Sum.inr "spot", .int 0)]) = H4
    have npc : pc ≠ p := fun z => by rw [z, p2] at hpc; cases hpc
    have p4 : H4 p = some (.dK [((Sum.inr "cells" : Key), V.ref pc), (Sum.inr "great", .ref q), (Sum.inr "spot", .int 0)]) := by rw [← hH4]; exact upd_same
    have c4 : H4 pc = some (.lst (cs.map V.int)) := by rw [← hH4, upd_ne npc, upd_ne (ne_of_none hpc hq)]; exact hpc
    have t4 : TbK H H4 := by
      rw [← hH4]
      exact (TbK.new hp).trans (t2.trans ((TbK.new hq).trans (TbK.at_ (by rw [upd_ne nqp]; exact p2))))
    have s4 : ∀ b o, NoTb o → H b = some o → H4 b = some o := fun b o n e => by
      rw [← hH4]
      have e2 := s2.out (s1 _ _ e) n
      rw [upd_ne (ne_of_none e hp), upd_ne (ne_of_none e2 hq)]
      exact e2
    have a4 : SqL K H4 a (ns.map V.int) := by
      rcases ha with (h | ⟨o, h⟩) | h
      · exact .inl (.inl (s4 _ _ (by intro _ z; cases z) h))
      · exact .inl (.inr ⟨o, s4 _ _ (by intro _ z; cases z) h⟩)
      · exact .inr h
    clear hH4
    refine ⟨⟨K, none, [], H4, []⟩, rfl, ⟨[], .scr ns :: List.replicate 2 .no, 0⟩, fun ds k => ∃ gs : List Int, ds = gs.map .int ∧ gs.length ≤ 63 ∧ ∀ x ∈ gs, 0 ≤ x, rep0 a4 rfl rfl, ?_, ?_⟩
    · refine ⟨ns, rfl, by rw [List.length_map]; exact Nat.le_trans hl (by decide), fun p hp => ⟨fun i acc k => ∃ gs : List Int, acc = gs.map .int ∧ gs.length = i ∧ ∀ x ∈ gs, 0 ≤ x, ⟨[], rfl, rfl, fun _ h => (nomatch h)⟩, ?_, ?_⟩⟩
      · rintro i d acc k hd ⟨gs, rfl, rfl, hb⟩ _
        rw [List.getElem?_map] at hd
        obtain ⟨c, hc', rfl⟩ := Option.map_eq_some_iff.mp hd
        have fin2 : ∀ z : Int, 0 ≤ z → ∃ gs' : List Int, gs.map D.int ++ [.int z] = gs'.map .int ∧ gs'.length = gs.length + 1 ∧ ∀ x ∈ gs', 0 ≤ x := fun z hz => ⟨gs ++ [z], by rw [List.map_append]; rfl, by simp, fun x hx => by
          rcases List.mem_append.mp hx with h | h
          · exact hb x h
          · simp at h; omega⟩
        refine iteT ⟨_, rfl, ⟨by decide, by decide, by decide⟩, _, rfl, ?_⟩
        by_cases h : ((10 : Int) ^ (18 : Int).toNat ≤ c)
        · rw [decide_eq_true h]
          exact iteT ⟨_, rfl, fin2 c (by have : (0 : Int) ≤ (10 : Int) ^ (18 : Int).toNat := by decide
                                         omega)⟩
        · rw [decide_eq_false h]
          exact iteF (fin2 0 (by decide))
      · rintro acc k ⟨gs, rfl, hg, hb⟩ _
        exact ⟨gs, rfl, by rw [hg, List.length_map]; exact hl, hb⟩
    · rintro ds k ⟨gs, rfl, hg, hb2⟩ g H5 nl
      obtain ⟨vs, hg5, ra5⟩ := nl.vals
      obtain rfl := ra5.ints_v
      have out : ∀ b o, NoTb o → H4 b = some o → H5 b = some o := fun b o n e => (wo_ne (nl.sub b o (wo_of (by simp [Ml]) e n))).2
      have p5 := out _ _ (by intro _ z; cases z) p4
      have c5 := out _ _ (by intro _ z; cases z) c4
      have ngp : p ≠ g := fun z => by rw [← z, p5] at hg5; cases hg5
      refine ⟨_, rfl, p, _, rfl, DPut.k (k := Sum.inr "great") p5 (by show 3 < sizeLine; decide), ?_⟩
      have mk2 : putK [((Sum.inr "cells" : Key), V.ref pc), (Sum.inr "great", .ref q), (Sum.inr "spot", .int 0)] (Sum.inr "great") (.ref g) = [((Sum.inr "cells" : Key), V.ref pc), (Sum.inr "great", .ref g), (Sum.inr "spot", .int 0)] := by rfl
      rw [mk2]
      --show tRet (tVar 1) _ _ (upd H5 p (.dK [((Sum.inr "cells" : Key), V.ref pc), (Sum.inr "great", .ref g), (Sum.inr "spot", .int 0)]))
      refine ⟨_, rfl, fin ⟨p, pc, g, [], none⟩ _ cs gs ?_ ⟨upd_same, by rw [upd_ne npc]; exact c5, by rw [upd_ne (Ne.symm ngp)]; exact hg5, hc, hb, hg, hb2⟩⟩
      exact t4.trans (nl.rep.tb.trans (.at_ p5))
end
end T7
namespace BW
open PySem L2 DL
section
variable {P : Program} {w : World} {K : PySem.W.Frag} {mg : PySem.Str → Option Value} {base : Heap}
theorem ok__law_tableS {f : Addr} {fd : FuncData} (F : Fun K "_law_table" "_law_table" s__law_table f fd) (g_range : mg "range" = none) (g_len : mg "len" = none) (c__law_draw : CalD P w K mg base 2 "_law_draw" true sp__law_draw) : FnOk P w K mg base CX0 3 f fd ["m", "many", "some"] (spD K true sp__law_tableS) := by
  refine F.ok sc__law_table (fun vs H Q E h => ?_) (fun cdv A outer s H vs Q E hr h => ?_)
  · obtain ⟨M, X0, k, ds, ws, R, ⟨m, _, rfl⟩, a, ⟨n, zs, rfl, _⟩, _⟩ := h
    have := a.args.len
    rw [List.length_cons, this]
    rfl
  · obtain ⟨M, X0, k, ds, ws, R, ⟨m, ⟨rfl, hkd⟩, rfl⟩, ⟨xm, xs, hm, ar, xt⟩, ⟨n, zs, rfl, n1, n6, zne, zl, zal, hk, hR⟩, fin⟩ := h
    obtain ⟨u2, rfl, ru⟩ : ∃ u2, ws = [V.int n, u2] ∧ Rl K (wo H (Ml (some m) ++ X0)) u2 (.lst (zs.map .int)) := by
      cases ar with
      | cons h1 h2 =>
        cases h2 with
        | cons h3 h4 => cases h4; cases h1.intE; exact ⟨_, rfl, h3⟩
    clear ar
    refine ⟨_, pss_cons (ps_setLc (i := 3) (own := [("k", 7)]) rfl sc__law_table.nd rfl rfl (sw_true rfl rfl rfl (by decide +kernel)) (pi_range1 rfl g_range (pa_cons (pv 1) pa_nil) rfl) (blkOk_by (N := ["m", "many", "some", "rows", "one", "other", "bond_so", "k"]) (sc := defScope s__law_table) (by decide +kernel)) (fun _ _ _ _ _ => pg_name (i := 7) sc__law_table.nd rfl (.inl rfl)) (fun _ _ _ _ _ => pts_nil) (fun _ _ _ _ _ => pe_op op_rep (pe_lst (pa_cons pe_int pa_nil)) (pv 1)))
    (pss_cons (ps_for PassesOwn.never rfl (pi_range1 rfl g_range (pa_cons (pv 1) pa_nil) rfl) (pg_name (i := 4) sc__law_table.nd rfl (.inl rfl))
      (pss_one (ps_for PassesOwn.never rfl (pi_range1 rfl g_range (pa_cons (pv 4) pa_nil) rfl) (pg_name (i := 5) sc__law_table.nd rfl (.inl rfl))
        (pss_cons (ps_set (i := 6) sc__law_table.nd rfl (.inl rfl) (PE.exE (K := K) (t := t_k2) fun c hc => pd_ixN hc 2 (pd_callM hc c__law_draw hr (by decide) 0 (pad_cons (pd_lenN hc g_len 2) pad_nil))))
        (pss_cons (ps_asg (pv 6) (pg_sub (pe_ix ix_list (pv 3) (pv 4) (fun _ _ => rfl)) (pv 5) set_list))
        (pss_one (ps_asg (pv 6) (pg_sub (pe_ix ix_list (pv 3) (pv 5) (fun _ _ => rfl)) (pv 4) set_list))))))))
    (pss_one (ps_ret (pv 3)))), ?_⟩
    have xs1 : ∀ a ∈ Ml (some m) ++ X0, H a ≠ none := fun a ha => (List.mem_append.mp ha).elim (hm.there a) (xs a)
    have mlH : ∀ a, H a = none → a ∉ Ml (some m) := fun a ha z => hm.there a z ha
    show tSeq (tAsg (tLc (iRng1 (tCons (tVar 1) tNil)) (gName 7) tYes tOnes [7]) (gName 3)) _ _ (L2.start ["m", "many", "some", "rows", "one", "other", "bond_so", "k"] [V.ref m.pm, V.int n, u2]) H
    refine seqAsg ?_
    refine nest_tab2 xs1 n6 rfl fun p qs H2 kp hp0 hq0 mx => ?_
    have mp := mlH p hp0
    have mq : ∀ q ∈ qs, q ∉ Ml (some m) := fun q h => mlH q (hq0 q h)
    have kp2 : Keep (some m) X0 H H2 := ⟨fun a o _ e t => kp.at (by simp [Ml]) e t, kp.tb, fun a ha => kp.old a (List.mem_append_right _ ha)⟩
    have hm2 : MAt (some m) H2 k := hm.eq (fun a ha _ => kp.old a (List.mem_append_left _ ha)) kp.tb
    have s9 : S9 m n u2 p ((L2.start ["m", "many", "some", "rows", "one", "other", "bond_so", "k"] [V.ref m.pm, V.int n, u2]).set 3 (some (V.ref p))) := ⟨rfl, rfl, rfl, rfl, rfl, hkd⟩
    have mxK : ∀ {H' H'' : Hp} {g : Nat → Nat → Int}, Mx H' p qs (fm n g) → Keep (some m) X0 H' H'' → Mx H'' p qs (fm n g) := fun {H' H'' g} x kk => ⟨kk.at mp x.top, x.len, fun i q r h1 h2 => kk.at (mq q (List.mem_of_getElem? h1)) (x.row i q r h1 h2), x.nd, x.out⟩
    have xsK : ∀ {H' : Hp}, Keep (some m) X0 H H' → ∀ a ∈ X0, H' a ≠ none := fun {H'} k a ha => by rw [k.old a ha]; exact xs a ha
    have xtK : ∀ {H' : Hp}, Keep (some m) X0 H H' → ∀ a ∈ X0, ∀ ps, H' a ≠ some (.tbl ps) := fun {H'} k a ha => by rw [k.old a ha]; exact xt a ha
    have ruK : ∀ {H' : Hp} {k' : Nat}, Keep (some m) X0 H H' → MAt (some m) H' k' → Rl K (wo H' (Ml (some m) ++ X0)) u2 (.lst (zs.map .int)) := fun {H' k'} kk mm => ru.mono (kk.aft (K := K) mm).1
    refine ⟨_, s9.e1, n, rfl, by omega, by omega, ?_⟩
    rw [Int.toNat_natCast]
    refine ⟨fun i mm σ' H' => mm = n - i ∧ i ≤ n ∧ S9 m n u2 p σ' ∧ ∃ (g : Nat → Nat → Int) (k' : Nat), Gq g i 0 ∧ k ≤ k' ∧ k' ≤ k + 6 * i ∧ Keep (some m) X0 H H' ∧ MAt (some m) H' k' ∧ Mx H' p qs (fm n g), ⟨n, rfl, Nat.zero_le _, s9, _, k, gq0, Nat.le_refl _, Nat.le_refl _, kp2, hm2, mx⟩, ?_⟩
    rintro i mm σ' H' ⟨rfl, hi, s9', g, k', gg, ka, kb, kp', hm', mx'⟩
    by_cases hlt : i < n
    · refine .inr ⟨hlt, fun σ2 H2 => S9 m n u2 p σ2 ∧ ∃ (g : Nat → Nat → Int) (k' : Nat), Gq g (i + 1) 0 ∧ k ≤ k' ∧ k' ≤ k + 6 * (i + 1) ∧ Keep (some m) X0 H H2 ∧ MAt (some m) H2 k' ∧ Mx H2 p qs (fm n g), fun σ2 H2 h => ⟨n - (i + 1), by omega, rfl, hlt, h⟩, ?_⟩
      rintro x H'' ⟨rfl, rfl⟩
      have s4 := s9'.set (i := 4) (by decide) (some (V.int (0 + (i : Int))))
      have t4 : (σ'.set 4 (some (V.int (0 + (i : Int)))))[4]? = some (some (V.int (0 + (i : Int)))) := List.getElem?_set_self (by rw [s9'.len]; decide)
      refine ⟨_, t4, 0 + (i : Int), rfl, by omega, by omega, ?_⟩
      have en : (0 + (i : Int)).toNat = i := by omega
      rw [en]
      refine ⟨fun j mm σ' H' => mm = i - j ∧ j ≤ i ∧ S9 m n u2 p σ' ∧ σ'[4]? = some (some (V.int (0 + (i : Int)))) ∧ ∃ (g : Nat → Nat → Int) (k' : Nat), Gq g i j ∧ k ≤ k' ∧ k' ≤ k + 6 * i + j ∧ Keep (some m) X0 H H' ∧ MAt (some m) H' k' ∧ Mx H' p qs (fm n g), ⟨i, rfl, Nat.zero_le _, s4, t4, g, k', gg, ka, by omega, kp', hm', mx'⟩, ?_⟩
      clear s4 t4 gg ka kb kp' hm' mx' g k'
      rintro j mm σ' H' ⟨rfl, hj, s9', t4, g, k', gg, ka, kb, kp', hm', mx'⟩
      by_cases hjt : j < i
      · refine .inr ⟨hjt, fun σ2 H2 => S9 m n u2 p σ2 ∧ σ2[4]? = some (some (V.int (0 + (i : Int)))) ∧ ∃ (g : Nat → Nat → Int) (k' : Nat), Gq g i (j + 1) ∧ k ≤ k' ∧ k' ≤ k + 6 * i + (j + 1) ∧ Keep (some m) X0 H H2 ∧ MAt (some m) H2 k' ∧ Mx H2 p qs (fm n g), fun σ2 H2 h => ⟨i - (j + 1), by omega, rfl, hjt, h⟩, ?_⟩
        rintro x H'' ⟨rfl, rfl⟩
        have s5 := s9'.set (i := 5) (by decide) (some (V.int (0 + (j : Int))))
        have t5 : (σ'.set 5 (some (V.int (0 + (j : Int)))))[5]? = some (some (V.int (0 + (j : Int)))) := List.getElem?_set_self (by rw [s9'.len]; decide)
        have u4 : (σ'.set 5 (some (V.int (0 + (j : Int)))))[4]? = some (some (V.int (0 + (i : Int)))) := by rw [List.getElem?_set_ne (by decide)]; exact t4
        refine seqAsg (le9 xm (xsK kp') (xtK kp') s5 (ruK kp' hm') hm' (t := t_k2) (R := fun d kz => k' ≤ kz ∧ kz ≤ k' + 1 ∧ ∃ v : Int, d = .int v ∧ AL v) ?_ fun d kz hd u Hc kc mc rv => ?_)
        · have ll : (zs.map D.int).length = zs.length := List.length_map ..
          have lp : 0 < zs.length := List.length_pos_iff.mpr zne
          refine ⟨_, rfl, rfl, _, rfl, _, rfl, by rw [ll]; omega, by rw [ll]; omega, by show k' < _; omega, fun z z0 z1 => ?_⟩
          rw [ll] at z1
          obtain ⟨b, rfl⟩ : ∃ b : Nat, z = (b : Int) := ⟨z.toNat, by omega⟩
          have hb : b < zs.length := by omega
          exact ⟨_, .int _, rfl, atM (xs := zs) (f := D.int) 0 hb, by show k' ≤ k' + 1; omega, by show k' + 1 ≤ _; omega, _, rfl, zal _ (List.mem_of_getElem? (getD_get (d := 0) hb))⟩
        · obtain ⟨kz1, kz2, v, rfl, hv⟩ := hd
          cases rv.intE
          have s6 := s5.set (i := 6) (by decide) (some (V.int v))
          have xc := mxK mx' kc
          have zk := kp'.trans kc
          refine st_two (K := K) (a := i) (b := j) (x := 0 + (i : Int)) (y := 0 + (j : Int)) (by omega) (by omega) xc hlt (by omega) (by omega) s6.e3 (by rw [List.getElem?_set_ne (by decide)]; exact u4) (by rw [List.getElem?_set_ne (by decide)]; exact t5) (List.getElem?_set_self (by rw [s5.len]; decide)) fun H9 kp9 tb9 mx9 => ?_
          refine ⟨s6, by rw [List.getElem?_set_ne (by decide)]; exact u4, _, kz, gg.sw hjt hv, by omega, by omega, ⟨fun a o ha e t => kp9 a o (fun z => by have := hq0 a z; rw [e] at this; cases this) (zk.ob a o ha e t), zk.tb.trans tb9, fun a ha => ?_⟩, mc.eq (fun a ha hn => ?_) tb9, mx9⟩
          · cases e : Hc a with
            | none => rw [zk.old a ha] at e; exact absurd e (xs a ha)
            | some o => exact (kp9 a o (fun z => xs a ha (hq0 a z)) e).trans (e.symm.trans (zk.old a ha))
          · cases e : Hc a with
            | none => exact absurd e hn
            | some o => exact kp9 a o (fun z => mq a z ha) e
      · refine .inl ⟨by show i ≤ j; omega, ?_⟩
        have e : j = i := by omega
        subst e
        exact ⟨s9', g, k', gg.next, ka, by omega, kp', hm', mx'⟩
    · refine .inl ⟨by show n ≤ i; omega, ?_⟩
      have e : i = n := by omega
      subst e
      refine ⟨_, s9'.e3, ?_⟩
      have hidN : ∀ a, H a = none → a ∉ Ml (some m) ++ X0 := fun a ha z => by
        rcases List.mem_append.mp z with z | z
        · exact mlH a ha z
        · exact xs a z ha
      have rlM := mx'.rl (K := K) (hidN p hp0) fun q hq => hidN q (hq0 q hq)
      exact fin (lM (fm i g)) k' (hR (fm i g) k' (tab_gq n1 n6 gg) (fm_len _ _) (by omega) (by omega)) _ _ (kp'.aft hm') rlM
end
end BW
namespace BW
open PySem L2 DL
abbrev s_law : Stmt := top 63
theorem sc_law : FnScope ["script", "m", "turn", "table", "bonds", "many", "word", "some", "due", "again", "one", "told", "letter", "less"] ["script"] (defScope s_law) := ⟨rfl, rfl, rfl, by decide +kernel, rfl, by decide +kernel, by decide +kernel⟩
def exLSs (K : PySem.W.Frag) (T : List (Addr × PySem.Str)) (t : DS) : TS := fun D σ H => ∃ c, c.K = K ∧ LwC c T ∧ c.ow = [] ∧ LS c t D σ H
theorem PSs.exL {X : Cx} {st : List Stmt} {K : PySem.W.Frag} {T : List (Addr × PySem.Str)} {t : DS} (h : ∀ c, c.K = K → LwC c T → c.ow = [] → PSs X st (LS c t)) : PSs X st (exLSs K T t) := ⟨fun pins s σ H Q I ⟨c, hc, fr, ho, q⟩ => (h c hc fr ho).run pins s σ H Q I q⟩
def spLaw (K : PySem.W.Frag) (T : List (Addr × PySem.Str)) : Sp := fun vs H Q _ => ∃ (a : Addr) (ns : List Int), vs = [.ref a] ∧ SqL K H a (ns.map V.int) ∧ ns.length ≤ 63 ∧ (∀ p ∈ T, H p.1 = some (.tbl #[])) ∧ ∀ H', Q (.bl true) H'
section
variable {P : Program} {w : World} {K : PySem.W.Frag} {mg : PySem.Str → Option Value} {base : Heap} {BC NC : Addr} {T : List (Addr × PySem.Str)}
theorem w_law (g_range : mg "range" = none) (g_len : mg "len" = none) (g_list : mg "list" = none) (g_min : mg "min" = none) (c__law_table : CalD P w K mg base 3 "_law_table" true sp__law_tableS) (c__law_draw : CalD P w K mg base 2 "_law_draw" true sp__law_draw) (c_Bonds : MakD P w K mg base 4 "Bonds" BC (sp_Bonds BC)) (c__law_word : CalD P w K mg base 3 "_law_word" true sp__law_wordL) (c__law_under : CalD P w K mg base 5 "_law_under" false sp__law_under) (c__law_rows_by : CalD P w K mg base 3 "_law_rows_by" false sp__law_rows_by) (c_count_below : CalD P w K mg base 9 "count_below" false (sp_count_below BC)) (c_is_below : CalD P w K mg base 8 "is_below" false (sp_is_below BC)) (c_lasts : CalD P w K mg base 6 "lasts" false (sp_lasts BC)) (cG_shortest_words : CalGen P w K mg base 6 "shortest_words" (spG_shortest_words BC))  (f : Addr) (cdv : Value) (A : Around) (outer : List Env) (s : Shared) (H : Hp) (E : XK) {c : C} (hc : c.K = K) {cc : Addr} (fr : LwC c T) (ho : c.ow = []) (hcd : cdv = .ref cc)
    (gu : (A.deeper (PyProof.Rows.envOfC "law" (defScope s_law) s.heap.objs.size f cdv)).guards = some []) (hr : Room 9 (A.deeper (PyProof.Rows.envOfC "law" (defScope s_law) s.heap.objs.size f cdv))) :
    PSs (cxOf CX0 P w K mg base ["script", "m", "turn", "table", "bonds", "many", "word", "some", "due", "again", "one", "told", "letter", "less"] "law" (defScope s_law) f cdv A outer s H E).nox ((defBody s_law).drop 1) (LS c (t_law43 BC K)) :=
  (psd_cons (psd_for PassesOwn.never rfl (pid_r1 g_range pd_int) (pgd_name 2 sc_law.nd) (psd_cons (psd_set 3 sc_law.nd (pd_callM hc c__law_table hr (by decide) 1 (pad_cons (pd_add hc pd_int (pd_callM hc c__law_draw hr (by decide) 1 (pad_cons pd_int pad_nil))) (pad_cons (pd_fr (pdf_lst (pad_cons pd_int (pad_cons pd_int (pad_cons pd_int (pad_cons pd_int (pad_cons pd_int (pad_cons pd_int (pad_cons pd_int pad_nil))))))))) pad_nil))))
  (psd_cons (psd_par2 4 5 rfl sc_law.nd (pax_dat (pd_make hc c_Bonds hr (by decide) (pad_cons (pd_var 3) pad_nil)) (pax_dat (pd_lenN hc g_len 3) pax_nil)))
  (psd_cons (psd_set 6 sc_law.nd (pd_callM hc c__law_word hr (by decide) 1 (pad_cons (pd_var 5) (pad_cons pd_int pad_nil))))
  (psd_cons (psd_set 7 sc_law.nd (pd_listG0 hc cG_shortest_words hr (by decide) (pad_cons (pd_var 4) (pad_cons (pd_var 6) pad_nil)) g_list))
  (psd_cons (psd_set 8 sc_law.nd (pd_call hc c__law_under hr (by decide) (pad_cons (pd_var 3) (pad_cons (pd_var 6) pad_nil))))
  (psd_cons (psd_for PassesOwn.never rfl (pid_r1 g_range (pd_min2 g_min rfl pd_int (pd_lenN hc g_len 7))) (pgd_name 9 sc_law.nd) (psd_one (psd_if (ptd_cmp (OpR.or op_ne (op_neD hr.units)) (fit_ne hc) (pd_call hc c__law_rows_by hr (by decide) (pad_cons (pd_var 3) (pad_cons (pd_ixN hc 7 (pd_callM hc c__law_draw hr (by decide) 1 (pad_cons (pd_lenN hc g_len 7) pad_nil))) pad_nil))) (pd_var 8)) (psd_one (psd_ret pd_bl)) psd_nil)))
  (psd_cons (psd_if (ptd_cmp (OpR.or op_ne (op_neD hr.units)) (fit_ne hc) (pd_call hc c_count_below hr (by decide) (pad_cons (pd_var 4) (pad_cons (pd_var 6) pad_nil))) (pd_lenN hc g_len 8)) (psd_one (psd_ret pd_bl)) psd_nil)
  (psd_cons (psd_set 10 sc_law.nd (pd_callM hc c__law_word hr (by decide) 1 (pad_cons (pd_var 5) (pad_cons pd_int pad_nil))))
  (psd_cons (psd_set 11 sc_law.nd (pd_call hc c_is_below hr (by decide) (pad_cons (pd_var 4) (pad_cons (pd_var 10) (pad_cons (pd_var 6) pad_nil)))))
  (psd_cons (psd_if (ptd_cmp (OpR.or op_ne (op_neD hr.units)) (fit_ne hc) (pd_call hc c_is_below hr (by decide) (pad_cons (pd_var 4) (pad_cons (pd_rev hc (pd_var 10)) (pad_cons (pd_rev hc (pd_var 6)) pad_nil)))) (pd_var 11)) (psd_one (psd_ret pd_bl)) psd_nil)
  (psd_one (psd_for PassesOwn.never rfl (pid_tup hc (pd_call hc c_lasts hr (by decide) (pad_cons (pd_var 4) (pad_cons (pd_var 6) pad_nil)))) (pgd_name 12 sc_law.nd) (psd_cons (psd_set 13 sc_law.nd (pd_if (ptd_cmp op_in_seq (fit_in hc) (pd_var 12) (pd_call hc c_lasts hr (by decide) (pad_cons (pd_var 4) (pad_cons (pd_var 10) pad_nil)))) (pd_add hc (pd_var 10) (pd_fr (pdf_lst (pad_cons (pd_var 12) pad_nil)))) (pd_var 10)))
  (psd_one (psd_if (ptd_cmp (OpR.or op_ne (op_neD hr.units)) (fit_ne hc) (pd_call hc c_is_below hr (by decide) (pad_cons (pd_var 4) (pad_cons (pd_var 13) (pad_cons (pd_add hc (pd_var 6) (pd_fr (pdf_lst (pad_cons (pd_var 12) pad_nil)))) pad_nil)))) (pd_var 11)) (psd_one (psd_ret pd_bl)) psd_nil))))))))))))))))
  (psd_one (psd_ret pd_bl)))
theorem ok_law (g_range : mg "range" = none) (g_len : mg "len" = none) (g_list : mg "list" = none) (g_min : mg "min" = none) (c__law_table : CalD P w K mg base 3 "_law_table" true sp__law_tableS) (c__law_draw : CalD P w K mg base 2 "_law_draw" true sp__law_draw) (c_Bonds : MakD P w K mg base 4 "Bonds" BC (sp_Bonds BC)) (c__law_word : CalD P w K mg base 3 "_law_word" true sp__law_wordL) (c__law_under : CalD P w K mg base 5 "_law_under" false sp__law_under) (c__law_rows_by : CalD P w K mg base 3 "_law_rows_by" false sp__law_rows_by) (c_count_below : CalD P w K mg base 9 "count_below" false (sp_count_below BC)) (c_is_below : CalD P w K mg base 8 "is_below" false (sp_is_below BC)) (c_lasts : CalD P w K mg base 6 "lasts" false (sp_lasts BC)) (cG_shortest_words : CalGen P w K mg base 6 "shortest_words" (spG_shortest_words BC))  {fb : Addr} {fd fdb : FuncData} (F : Fun K "law" "law" s_law (He.fAd K ("law", none)) fd) (Gb : FnOk P w K mg base CX0 2 fb fdb ["script"] (T7.spBegun K)) (hmb : mg "_law_begun" = some (.ref fb)) (kpb : PySem.W.keepIn K (.ref fb) = true) (bb : Binds K fdb ["script"] []) :
    L2G.FnG P w K mg base 10 (He.fAd K ("law", none)) fd ["script"] (spLaw K T) := by
  refine L2G.okGT F sc_law (fun vs H Q E h => ?_) (fun cdv A outer s H vs Q E hcd hr gu h => ?_)
  · obtain ⟨a, ns, rfl, _⟩ := h
    rfl
  · obtain ⟨a, ns, rfl, ha, hl, hpt, fin⟩ := h
    refine ⟨_, pss_cons (ps_set (i := 1) sc_law.nd rfl (by first | exact .inl rfl | exact .inr rfl) (pe_call Gb (hr.mono (by decide)) rfl hmb kpb bb .nil pass0 (pa_cons (pv 0) pa_nil))) (PSs.exL (K := K) (T := T) (t := t_law43 BC K) fun c hc fr ho => w_law g_range g_len g_list g_min c__law_table c__law_draw c_Bonds c__law_word c__law_under c__law_rows_by c_count_below c_is_below c_lasts cG_shortest_words _ cdv A outer s H E hc fr ho hcd gu hr), ?_⟩
    refine ⟨_, rfl, a, ns, rfl, ha, hl, fun m H1 cs gs sb hm => ?_⟩
    have tb1 : LamX.Tabs T H1 := sb.tabs _ fun p hp => LamX.TabS.nil (hpt p hp)
    refine ⟨⟨K, some { m with T := T, kd := none }, [], fun _ => none, []⟩, rfl, ⟨⟨_, rfl, rfl, rfl⟩, fun _ _ z => nomatch z⟩, rfl, ⟨[], [.no, .mst, .no, .no, .no, .no, .no, .no, .no, .no, .no, .no, .no, .no], 0⟩, _, Rep.root (rep_of (X0 := []) (M := some { m with T := T, kd := none }) (fun _ h => (nomatch h)) (fun _ h => (nomatch h)) (fun _ h => (nomatch h)) rfl ⟨cs, gs, 0, ⟨hm.hm, hm.hc, hm.hg, hm.lc, hm.bc, hm.lg, hm.bg⟩, Nat.le_refl _, tb1⟩ (fun i x e => ?_) (fun i p ds e => ?_)) rfl, r_law43 BC K ⟨fun _ => False, fun d _ => d = .bl true, fun _ => False, fun _ => False⟩ (fun _ => rfl), ?_⟩
    · match i, e with
      | 0, e => cases e; trivial
      | 1, e => cases e; exact ⟨_, ⟨rfl, rfl⟩, rfl⟩
      | 2, e => cases e; trivial
      | 3, e => cases e; trivial
      | 4, e => cases e; trivial
      | 5, e => cases e; trivial
      | 6, e => cases e; trivial
      | 7, e => cases e; trivial
      | 8, e => cases e; trivial
      | 9, e => cases e; trivial
      | 10, e => cases e; trivial
      | 11, e => cases e; trivial
      | 12, e => cases e; trivial
      | 13, e => cases e; trivial
    · have mem := List.mem_of_getElem? e
      simp at mem
    · exact ⟨fun _ _ _ _ _ q => q.elim, fun _ _ _ _ _ q => q.elim, fun _ _ _ _ _ q => q.elim, fun d k v H' fi e r => by
        subst r
        cases e
        exact fin H'⟩
end
end BW
namespace BW
open PySem L2 DL
mutual
def D.noIns : D → Bool
  | .lst xs => noInsA xs
  | .tup xs => noInsA xs
  | .ins _ _ _ => false
  | .exc _ _ _ => false
  | .non => true
  | .bl _ => true
  | .int _ => true
  | .str _ => true
  | .dic => true
def noInsA : List D → Bool
  | [] => true
  | d :: r => D.noIns d && noInsA r
end
theorem sqT_off {K : PySem.W.Frag} {A : Hp} {x C dx a : Addr} {fs : List (PySem.Str × V)} {vs : List V} (hx : A x = some (.ins C dx fs)) (h : SqT K A a vs) : SqT K (wo A [x]) a vs := by
  rcases h with h | h
  · refine .inl ?_
    rcases h with h | ⟨o, h⟩
    · exact .inl (wo_of (fun z => by simp at z; subst z; rw [hx] at h; cases h) h)
    · exact .inr ⟨o, wo_of (fun z => by simp at z; subst z; rw [hx] at h; cases h) h⟩
  · exact .inr h
mutual
theorem rl_off {K : PySem.W.Frag} {A : Hp} {x C dx : Addr} {fs : List (PySem.Str × V)} (hx : A x = some (.ins C dx fs)) : ∀ {v : V} {d : D}, Rl K A v d → D.noIns d = true → Rl K (wo A [x]) v d
  | _, _, .non, _ => .non
  | _, _, .bl b, _ => .bl b
  | _, _, .int i, _ => .int i
  | _, _, .str s, _ => .str s
  | _, _, .lst h r, n => .lst (wo_of (fun z => by simp at z; subst z; rw [hx] at h; cases h) h) (rlA_off hx r n)
  | _, _, .tup h r, n => .tup (sqT_off hx h) (rlA_off hx r n)
  | _, _, .dic h, _ => .dic (wo_of (fun z => by simp at z; subst z; rw [hx] at h; cases h) h)
  | _, _, .ins _ _ _, n => by cases n
  | _, _, .exc _ _ _ _, n => by cases n
theorem rlA_off {K : PySem.W.Frag} {A : Hp} {x C dx : Addr} {fs : List (PySem.Str × V)} (hx : A x = some (.ins C dx fs)) : ∀ {vs : List V} {ds : List D}, RlA K A vs ds → noInsA ds = true → RlA K (wo A [x]) vs ds
  | _, _, .nil, _ => .nil
  | _, _, .cons h r, n => .cons (rl_off hx h (Bool.and_eq_true_iff.mp n).1) (rlA_off hx r (Bool.and_eq_true_iff.mp n).2)
end
theorem noIns_ints : ∀ ns : List Int, noInsA (ns.map D.int) = true
  | [] => rfl
  | _ :: r => noIns_ints r
theorem noIns_tM (T : Mat) : D.noIns (tM T) = true := by
  show noInsA (T.map tI) = true
  induction T with
  | nil => rfl
  | cons r T ih =>
    show (noInsA (r.map D.int) && noInsA (T.map tI)) = true
    rw [noIns_ints, ih]
    rfl
abbrev s_init : Stmt := memS 22 0
abbrev s_len : Stmt := memS 22 1
theorem sc_init : FnScope ["self", "rows", "row", "one"] ["self", "rows"] (defScope s_init) := ⟨rfl, rfl, rfl, by decide +kernel, rfl, by decide +kernel, by decide +kernel⟩
theorem sc_len : FnScope ["self"] ["self"] (defScope s_len) := ⟨rfl, rfl, rfl, by decide +kernel, rfl, by decide +kernel, by decide +kernel⟩
section
variable {P : Program} {w : World} {K : PySem.W.Frag} {mg : PySem.Str → Option Value} {base : Heap} {BC : Addr}
theorem ok_len {f : Addr} {fd : FuncData} (F : Fun K "__len__" "Bonds.__len__" s_len f fd) (g_len : mg "len" = none) (g_Bonds : Cls K BC) (g_Bonds_table : NoAttr K BC "table") : FnOk P w K mg base CX0 1 f fd ["self"] (spD K false (sp_len_Bonds BC)) :=
  okD F sc_len [] (fun ds k R ⟨T, h, _⟩ => by rw [h]; rfl) ⟨dRet (dLen (dFld BC "table" (dVar 0))), fun cdv A outer s H E M X0 hr => (psd_one (psd_ret (pd_len rfl g_len (pd_fld rfl g_Bonds g_Bonds_table (pd_var 0))))), fun X ds k R ⟨T, h1, h2, h3⟩ => by
    subst h1
    intro X
    refine ⟨_, rfl, _, _, tM T, rfl, rfl, _, rfl, ?_⟩
    rw [List.length_map]
    exact h3⟩
theorem ok_init {f : Addr} {fd : FuncData} (F : Fun K "__init__" "Bonds.__init__" s_init f fd) (g_tuple : mg "tuple" = none) (g_range : mg "range" = none) (g_len : mg "len" = none) (c_check_table : CalD P w K mg base 3 "check_table" false sp_check_table) (c_weights_from : CalD P w K mg base 2 "weights_from" false sp_weights_from) (g_Bonds : Cls K BC) (g_Bonds_table : NoAttr K BC "table") (g_Bonds_weights : NoAttr K BC "weights") :
    FnOk P w K mg base CX0 4 f fd ["self", "rows"] (spI K BC (sp_Bonds BC)) := by
  refine F.ok sc_init (fun vs H Q E h => ?_) (fun cdv A outer s H vs Q E hr h => ?_)
  · obtain ⟨X0, x, dx, ds, ws, R, rfl, h1, h2, h3, h4, h4t, h5, h6, ra, ⟨T, rfl, _⟩, _⟩ := h
    have := ra.len
    rw [List.length_cons, this]
    rfl
  · obtain ⟨X0, x, dx, ds, ws, R, rfl, hx, hdx, ne, xs, xt, nx, ndx, ra, ⟨T, rfl, ht, hR⟩, fin⟩ := h
    obtain ⟨v, rfl, rv⟩ : ∃ v, ws = [v] ∧ Rl K (wo H (x :: X0)) v (lM T) := by
      cases ra with
      | cons a b => cases b; exact ⟨_, rfl, a⟩
    refine ⟨_, pss_cons (ps_expr (PE.exE (K := K) (t := dCall sp_check_table (dCons (dVar 1) dNil)) fun c hc => pd_call hc c_check_table hr (by decide) (pad_cons (pd_var 1) pad_nil)))
      (pss_cons (ps_fld (pv 0) (PE.exE (K := K) (t := (dTupOf (dFr (dLc (iLst (dVar 1)) (dgN 2) dY (dTupN 2) [2])))) fun c hc => (pd_tupOf hc g_tuple (pd_fr (pdf_lc (own := [("row", 2)]) rfl sc_init.nd (pid_list hc (pd_var 1)) (blkOk_by (N := ["self", "rows", "row", "one"]) (sc := defScope s_init) (by decide +kernel)) (fun _ _ _ _ _ => (pgd_name 2 sc_init.nd)) (fun _ _ _ _ _ => pts_none) (fun _ _ _ _ _ => (pd_tupN hc g_tuple 2)))))) rfl)
      (pss_one (ps_fld (pv 0) (PE.exE (K := K) (t := (dTupOf (dFr (dLc (iR2 (dC (.int 1)) (dOp oAdd (dLenN 1) (dC (.int 1)))) (dgN 3) dY (dCall sp_weights_from (dCons (dFld BC "table" (dVar 0)) (dCons (dVar 3) dNil))) [3])))) fun c hc => (pd_tupOf hc g_tuple (pd_fr (pdf_lc (own := [("one", 3)]) rfl sc_init.nd (pid_r2 g_range pd_int (pd_add hc (pd_lenN hc g_len 1) pd_int)) (blkOk_by (N := ["self", "rows", "row", "one"]) (sc := defScope s_init) (by decide +kernel)) (fun _ _ _ _ _ => (pgd_name 3 sc_init.nd)) (fun _ _ _ _ _ => pts_none) (fun _ _ _ _ _ => (pd_call hc c_weights_from hr (by decide) (pad_cons (pd_fld hc g_Bonds g_Bonds_table (pd_var 0)) (pad_cons (pd_var 3) pad_nil)))))))) rfl))), ?_⟩
    have hT := ht.hi
    -- a state whose only data is the table
    have repT : ∀ (Y : List Addr) (G : Hp) (d0 : Sl), (∀ a ∈ Y, G a ≠ none) → (∀ a ∈ Y, ∀ ps, G a ≠ some (.tbl ps)) → SlOk ⟨K, none, Y, G, []⟩ Y G (some (some (V.ref x))) d0 → (∀ p ds, d0 ≠ .own p ds) → Rl K (wo G Y) v (lM T) → Rep ⟨K, none, Y, G, []⟩ ⟨Y, [d0, .dat (lM T), .no, .no], 0⟩ (L2.start ["self", "rows", "row", "one"] [V.ref x, v]) G := by
      intro Y G d0 hY hT0 h0 hn hv
      refine ⟨Sub.refl _, fun _ _ _ _ => rfl, fun _ h => h, fun _ _ => by simp [Ml], hY, trivial, fun i z e => ?_, fun i j p q ds es e _ _ => ?_, rfl, .refl, hT0⟩
      · match i, e with
        | 0, e => cases e; exact h0
        | 1, e => cases e; exact ⟨v, rfl, hv⟩
        | 2, e => cases e; trivial
        | 3, e => cases e; trivial
      · match i, e with
        | 0, e => cases e; exact absurd rfl (hn _ _)
        | 1, e => cases e
        | 2, e => cases e
        | 3, e => cases e
    have xs1 : ∀ a ∈ x :: X0, H a ≠ none := fun a h => by
      rcases List.mem_cons.mp h with rfl | h
      · rw [hx]; simp
      · exact xs a h
    have xt1 : ∀ a ∈ x :: X0, ∀ ps, H a ≠ some (.tbl ps) := fun a h ps => by
      rcases List.mem_cons.mp h with rfl | h
      · rw [hx]; intro e; cases e
      · exact xt a h ps
    refine ⟨⟨K, none, x :: X0, H, []⟩, rfl, ⟨x :: X0, [.no, .dat (lM T), .no, .no], 0⟩, fun _ _ => True, repT _ H .no xs1 xt1 trivial (fun _ _ z => nomatch z) rv, ?_, ?_⟩
    · exact ⟨_, rfl, T, rfl, ht, trivial⟩
    rintro _ k0 _ _ H1 r1 a1 _
    have x1 : H1 x = some (.ins BC dx []) := by rw [a1.own x List.mem_cons_self]; exact hx
    have s01 : Sub (wo H (x :: X0)) (wo H1 (x :: X0)) := a1.sub
    have o1 : ∀ a ∈ X0, H1 a = H a := fun a h => a1.own a (List.mem_cons_of_mem _ h)
    have t01 : TbK H H1 := r1.tb
    clear r1 a1
    have rv1 := rv.mono s01
    refine ⟨⟨K, none, x :: X0, H1, []⟩, rfl, ⟨x :: X0, [.no, .dat (lM T), .no, .no], 0⟩, fun d _ => d = tM T, repT _ H1 .no (fun a h => by
      rcases List.mem_cons.mp h with rfl | h
      · rw [x1]; simp
      · rw [o1 a h]; exact xs a h) (fun a h ps => by
      rcases List.mem_cons.mp h with rfl | h
      · rw [x1]; intro e; cases e
      · rw [o1 a h]; exact xt a h ps) trivial (fun _ _ z => nomatch z) rv1, ?_, ?_⟩
    · refine ⟨_, rfl, _, rfl, by rw [List.length_map]; exact Nat.le_trans hT (by decide), fun p hp => ⟨fun j acc _ => acc = (T.take j).map tI, rfl, ?_, ?_⟩⟩
      · rintro j d acc k' hd rfl _
        rw [List.getElem?_map] at hd
        obtain ⟨r, hr, rfl⟩ := Option.map_eq_some_iff.mp hd
        refine iteT ⟨_, rfl, ?_⟩
        show _ = (T.take (j + 1)).map tI
        rw [List.take_succ, hr, List.map_append]
        rfl
      · rintro acc k' rfl _
        refine ⟨_, rfl, ?_⟩
        rw [List.length_map, List.take_length]
    rintro _ k1 rfl v1 H2 r2 a2 rt
    have x2 : H2 x = some (.ins BC dx []) := by rw [a2.own x List.mem_cons_self]; exact x1
    have s12 : Sub (wo H1 (x :: X0)) (wo H2 (x :: X0)) := a2.sub
    have o2 : ∀ a ∈ X0, H2 a = H1 a := fun a h => a2.own a (List.mem_cons_of_mem _ h)
    have rt : Rl K (wo H2 (x :: X0)) v1 (tM T) := rt
    have t12 : TbK H1 H2 := r2.tb
    clear r2 a2
    refine ⟨_, rfl, x, BC, dx, [], rfl, x2, g_Bonds, g_Bonds_table, by decide, ?_⟩
    -- the first field stands
    have s23 : Sub (wo H2 (x :: X0)) (wo (upd H2 x (.ins BC dx [("table", v1)])) X0) := fun a o e => by
      obtain ⟨n, e⟩ := wo_ne e
      exact wo_of (fun z => n (List.mem_cons_of_mem _ z)) (by rw [upd_ne (fun z => n (by rw [z]; exact List.mem_cons_self))]; exact e)
    have x3 : (upd H2 x (.ins BC dx [(("table" : PySem.Str), v1)])) x = some (.ins BC dx [("table", v1)]) := upd_same
    have o3 : ∀ a ∈ X0, (upd H2 x (.ins BC dx [(("table" : PySem.Str), v1)])) a = H a := fun a h => by rw [upd_ne (fun z => nx (by rw [← z]; exact h)), o2 a h, o1 a h]
    have rt3 := rt.mono s23
    have rv3 := (rv1.mono s12).mono s23
    have hY3 : ∀ a ∈ X0, (upd H2 x (.ins BC dx [(("table" : PySem.Str), v1)])) a ≠ none := fun a h => by rw [o3 a h]; exact xs a h
    refine ⟨⟨K, none, X0, upd H2 x (.ins BC dx [("table", v1)]), []⟩, rfl, ⟨X0, [.dat (.ins BC ["table"] [tM T]), .dat (lM T), .no, .no], 0⟩, fun d _ => d = tM (wtM T), repT _ _ (.dat (.ins BC ["table"] [tM T])) hY3 (fun a h => by rw [o3 a h]; exact xt a h) ⟨_, rfl, .ins (ns := ["table"]) (vs := [v1]) (wo_of (by simpa [Ml] using nx) x3) rfl (.cons rt3 .nil)⟩ (fun _ _ z => nomatch z) rv3, ?_, ?_⟩
    · refine ⟨_, rfl, 1, _, rfl, rfl, ⟨by omega, by omega, ?_, ?_⟩, ?_⟩
      · rw [List.length_map]; omega
      · rw [List.length_map]; omega
      have en : (((T.map lI).length : Int) + 1 - 1).toNat = T.length := by rw [List.length_map]; omega
      rw [en]
      refine ⟨by rw [rngD_len]; exact Nat.le_trans hT (by decide), fun p hp => ⟨fun j acc _ => acc = (List.range j).map fun i => tI (wtr T i), rfl, ?_, ?_⟩⟩
      · rintro j d acc k' hd rfl _
        obtain ⟨hj, rfl⟩ := rngD_at hd
        refine iteT ⟨_, rfl, _, _, tM T, rfl, rfl, _, rfl, T, _, rfl, ht, by omega, by omega, ?_⟩
        have e : ix (1 + (j : Int)) = j := by unfold ix; omega
        rw [e]
        show _ = (List.range (j + 1)).map _
        rw [range_step]
      · rintro acc k' rfl _
        refine ⟨_, rfl, ?_⟩
        rw [rngD_len]
        show D.tup _ = D.tup ((wtM T).map tI)
        unfold wtM
        rw [List.map_map]
        rfl
    rintro _ k2 rfl v2 H3 r3 a3 rw2
    have s34 : Sub (wo (upd H2 x (.ins BC dx [(("table" : PySem.Str), v1)])) X0) (wo H3 X0) := a3.sub
    have o4 : ∀ a ∈ X0, H3 a = H a := fun a h => (a3.own a h).trans (o3 a h)
    have rw2 : Rl K (wo H3 X0) v2 (tM (wtM T)) := rw2
    have t34 : TbK (upd H2 x (.ins BC dx [("table", v1)])) H3 := r3.tb
    clear r3 a3
    have x4 : (wo H3 X0) x = some (.ins BC dx [("table", v1)]) := s34 x _ (wo_of nx x3)
    have rt4 := rl_off x4 (rt3.mono s34) (noIns_tM T)
    have rw4 := rl_off x4 rw2 (noIns_tM _)
    refine ⟨_, rfl, x, BC, dx, [("table", v1)], rfl, (wo_ne x4).2, g_Bonds, g_Bonds_weights, by show 1 < 1000; decide, ?_⟩
    have s45 : Sub (wo (wo H3 X0) [x]) (wo (upd H3 x (.ins BC dx [(("table" : PySem.Str), v1), ("weights", v2)])) X0) := fun a o e => by
      obtain ⟨n, e⟩ := wo_ne e
      obtain ⟨n2, e⟩ := wo_ne e
      exact wo_of n2 (by rw [upd_ne (fun z => n (by rw [z]; exact List.mem_cons_self))]; exact e)
    refine fin (bnd BC T) 0 hR (upd H3 x (.ins BC dx [(("table" : PySem.Str), v1), ("weights", v2)])) (fun a o e => ?_) (fun a h => by rw [upd_ne (fun z => nx (by rw [← z]; exact h)), o4 a h]) (t01.trans (t12.trans ((TbK.at_ x2).trans (t34.trans (TbK.at_ (wo_ne x4).2))))) ?_
    · obtain ⟨n, _⟩ := wo_ne e
      have e4 := s34 a o (s23 a o (s12 a o (s01 a o e)))
      obtain ⟨n2, e4⟩ := wo_ne e4
      exact wo_of n2 (by rw [upd_ne (fun z => n (by rw [z]; exact List.mem_cons_self))]; exact e4)
    · exact .ins (ns := ["table", "weights"]) (vs := [v1, v2]) (wo_of nx upd_same) rfl (.cons (rt4.mono s45) (.cons (rw4.mono s45) .nil))
end
end BW
namespace BW
open PySem L2 DL
theorem toFun {K : PySem.W.Frag} {x qual : PySem.Str} {st : Stmt} {f : Addr} {fd : FuncData} (F : FunD K x qual (defArgs st) (defBody st) (defScope st) [] [] f fd) : Fun K x qual st f fd := by
  obtain ⟨oc, od, dV, kV, doc, pm, an, cdv, ct, osl, rfl, lk, hcd, hD, hK⟩ := F.ex
  rcases hD with ⟨_, rfl⟩ | ⟨e, _⟩
  · exact ⟨⟨oc, od, kV, doc, pm, an, cdv, ct, osl, rfl, lk, hcd⟩, F.kp⟩
  · exact absurd rfl e
set_option maxHeartbeats 0 in
theorem facts {P : Program} {w : World} {K : PySem.W.Frag} {h : Heap} {mg : PySem.Str → Option Value} {f0 : Addr} (X : K.In h) (G : h.Ns mainGlobals mg) (hfa : mg ("law" : PySem.Str) = some (.ref f0)) (c : He.SaysX fa fn tabL tfL exB w h K) :
    ∃ fd : FuncData, (∀ (s : Shared) (v : Value), BindsTo s fd ⟨[v], []⟩ [("script", v)]) ∧ ∀ base : Heap, K.In base → base.Ns mainGlobals mg → (∀ n ∈ tfL, LamX.TabB base mg (He.cT K n).1 (He.cT K n).2) → L2G.FnG P w K mg base 10 f0 fd ["script"] (spLaw K (TTof K lamL)) := by
  obtain ⟨fd_is_whole, D_is_whole⟩ := c.t.d.def_ 0 (d := dd "is_whole" 14) rfl
  have F_is_whole : Fun K "is_whole" "is_whole" (top 14) (He.fAd K ("is_whole", none)) fd_is_whole := toFun D_is_whole
  obtain ⟨fd_is_letter, D_is_letter⟩ := c.t.d.def_ 1 (d := dd "is_letter" 15) rfl
  have F_is_letter : Fun K "is_letter" "is_letter" (top 15) (He.fAd K ("is_letter", none)) fd_is_letter := toFun D_is_letter
  obtain ⟨fd_can_stand, D_can_stand⟩ := c.t.d.def_ 2 (d := dd "can_stand" 17) rfl
  have F_can_stand : Fun K "can_stand" "can_stand" (top 17) (He.fAd K ("can_stand", none)) fd_can_stand := toFun D_can_stand
  obtain ⟨fd_check_shape, D_check_shape⟩ := c.t.d.def_ 3 (d := dd "check_shape" 18) rfl
  have F_check_shape : Fun K "check_shape" "check_shape" (top 18) (He.fAd K ("check_shape", none)) fd_check_shape := toFun D_check_shape
  obtain ⟨fd_check_table, D_check_table⟩ := c.t.d.def_ 4 (d := dd "check_table" 19) rfl
  have F_check_table : Fun K "check_table" "check_table" (top 19) (He.fAd K ("check_table", none)) fd_check_table := toFun D_check_table
  obtain ⟨fd_weight_of, D_weight_of⟩ := c.t.d.def_ 5 (d := dd "weight_of" 20) rfl
  have F_weight_of : Fun K "weight_of" "weight_of" (top 20) (He.fAd K ("weight_of", none)) fd_weight_of := toFun D_weight_of
  obtain ⟨fd_weights_from, D_weights_from⟩ := c.t.d.def_ 6 (d := dd "weights_from" 21) rfl
  have F_weights_from : Fun K "weights_from" "weights_from" (top 21) (He.fAd K ("weights_from", none)) fd_weights_from := toFun D_weights_from
  obtain ⟨fd_as_word, D_as_word⟩ := c.t.d.def_ 7 (d := dd "as_word" 24) rfl
  have F_as_word : Fun K "as_word" "as_word" (top 24) (He.fAd K ("as_word", none)) fd_as_word := toFun D_as_word
  obtain ⟨fd_is_row, D_is_row⟩ := c.t.d.def_ 8 (d := dd "is_row" 26) rfl
  have F_is_row : Fun K "is_row" "is_row" (top 26) (He.fAd K ("is_row", none)) fd_is_row := toFun D_is_row
  obtain ⟨fd_first_row, D_first_row⟩ := c.t.d.def_ 9 (d := dd "first_row" 27) rfl
  have F_first_row : Fun K "first_row" "first_row" (top 27) (He.fAd K ("first_row", none)) fd_first_row := toFun D_first_row
  obtain ⟨fd_pressed, D_pressed⟩ := c.t.d.def_ 10 (d := dd "pressed" 28) rfl
  have F_pressed : Fun K "pressed" "pressed" (top 28) (He.fAd K ("pressed", none)) fd_pressed := toFun D_pressed
  obtain ⟨fd_row_behind, D_row_behind⟩ := c.t.d.def_ 11 (d := dd "row_behind" 29) rfl
  have F_row_behind : Fun K "row_behind" "row_behind" (top 29) (He.fAd K ("row_behind", none)) fd_row_behind := toFun D_row_behind
  obtain ⟨fd_fallen, D_fallen⟩ := c.t.d.def_ 12 (d := dd "fallen" 30) rfl
  have F_fallen : Fun K "fallen" "fallen" (top 30) (He.fAd K ("fallen", none)) fd_fallen := toFun D_fallen
  obtain ⟨fd_way_down, D_way_down⟩ := c.t.d.def_ 13 (d := dd "way_down" 31) rfl
  have F_way_down : Fun K "way_down" "way_down" (top 31) (He.fAd K ("way_down", none)) fd_way_down := toFun D_way_down
  obtain ⟨fd_row_of, D_row_of⟩ := c.t.d.def_ 14 (d := dd "row_of" 32) rfl
  have F_row_of : Fun K "row_of" "row_of" (top 32) (He.fAd K ("row_of", none)) fd_row_of := toFun D_row_of
  obtain ⟨fd_word_of, D_word_of⟩ := c.t.d.def_ 15 (d := dd "word_of" 33) rfl
  have F_word_of : Fun K "word_of" "word_of" (top 33) (He.fAd K ("word_of", none)) fd_word_of := toFun D_word_of
  obtain ⟨fd_lasts, D_lasts⟩ := c.t.d.def_ 16 (d := dd "lasts" 34) rfl
  have F_lasts : Fun K "lasts" "lasts" (top 34) (He.fAd K ("lasts", none)) fd_lasts := toFun D_lasts
  obtain ⟨fd_check_led, D_check_led⟩ := c.t.d.def_ 17 (d := dd "check_led" 37) rfl
  have F_check_led : Fun K "check_led" "check_led" (top 37) (He.fAd K ("check_led", none)) fd_check_led := toFun D_check_led
  obtain ⟨fd_least_word, D_least_word⟩ := c.t.d.def_ 18 (d := dd "least_word" 38) rfl
  have F_least_word : Fun K "least_word" "least_word" (top 38) (He.fAd K ("least_word", none)) fd_least_word := toFun D_least_word
  obtain ⟨fd_least_to_strike, D_least_to_strike⟩ := c.t.d.def_ 19 (d := dd "least_to_strike" 41) rfl
  have F_least_to_strike : Fun K "least_to_strike" "least_to_strike" (top 41) (He.fAd K ("least_to_strike", none)) fd_least_to_strike := toFun D_least_to_strike
  obtain ⟨fd_rows_below, D_rows_below⟩ := c.t.d.def_ 20 (d := dd "rows_below" 42) rfl
  have F_rows_below : Fun K "rows_below" "rows_below" (top 42) (He.fAd K ("rows_below", none)) fd_rows_below := toFun D_rows_below
  obtain ⟨fd_kept, D_kept⟩ := c.t.d.def_ 21 (d := dd "kept" 43) rfl
  have F_kept : Fun K "kept" "kept" (top 43) (He.fAd K ("kept", none)) fd_kept := toFun D_kept
  obtain ⟨fd_is_below, D_is_below⟩ := c.t.d.def_ 22 (d := dd "is_below" 44) rfl
  have F_is_below : Fun K "is_below" "is_below" (top 44) (He.fAd K ("is_below", none)) fd_is_below := toFun D_is_below
  obtain ⟨fd_count_below, D_count_below⟩ := c.t.d.def_ 23 (d := dd "count_below" 45) rfl
  have F_count_below : Fun K "count_below" "count_below" (top 45) (He.fAd K ("count_below", none)) fd_count_below := toFun D_count_below
  obtain ⟨fd_row_to_spell, D_row_to_spell⟩ := c.t.d.def_ 24 (d := dd "row_to_spell" 47) rfl
  have F_row_to_spell : Fun K "row_to_spell" "row_to_spell" (top 47) (He.fAd K ("row_to_spell", none)) fd_row_to_spell := toFun D_row_to_spell
  obtain ⟨fd_shortest_words, D_shortest_words⟩ := c.t.d.def_ 25 (d := dd "shortest_words" 48) rfl
  have F_shortest_words : Fun K "shortest_words" "shortest_words" (top 48) (He.fAd K ("shortest_words", none)) fd_shortest_words := toFun D_shortest_words
  obtain ⟨fd__law_mixed, D__law_mixed⟩ := c.t.d.def_ 26 (d := dd "_law_mixed" 50) rfl
  have F__law_mixed : Fun K "_law_mixed" "_law_mixed" (top 50) (He.fAd K ("_law_mixed", none)) fd__law_mixed := toFun D__law_mixed
  obtain ⟨fd__law_folded, D__law_folded⟩ := c.t.d.def_ 27 (d := dd "_law_folded" 51) rfl
  have F__law_folded : Fun K "_law_folded" "_law_folded" (top 51) (He.fAd K ("_law_folded", none)) fd__law_folded := toFun D__law_folded
  obtain ⟨fd__law_draw, D__law_draw⟩ := c.t.d.def_ 28 (d := dd "_law_draw" 52) rfl
  have F__law_draw : Fun K "_law_draw" "_law_draw" (top 52) (He.fAd K ("_law_draw", none)) fd__law_draw := toFun D__law_draw
  obtain ⟨fd__law_begun, D__law_begun⟩ := c.t.d.def_ 29 (d := dd "_law_begun" 53) rfl
  have F__law_begun : Fun K "_law_begun" "_law_begun" (top 53) (He.fAd K ("_law_begun", none)) fd__law_begun := toFun D__law_begun
  obtain ⟨fd__law_table, D__law_table⟩ := c.t.d.def_ 30 (d := dd "_law_table" 54) rfl
  have F__law_table : Fun K "_law_table" "_law_table" (top 54) (He.fAd K ("_law_table", none)) fd__law_table := toFun D__law_table
  obtain ⟨fd__law_weight, D__law_weight⟩ := c.t.d.def_ 31 (d := dd "_law_weight" 55) rfl
  have F__law_weight : Fun K "_law_weight" "_law_weight" (top 55) (He.fAd K ("_law_weight", none)) fd__law_weight := toFun D__law_weight
  obtain ⟨fd__law_pressed, D__law_pressed⟩ := c.t.d.def_ 32 (d := dd "_law_pressed" 56) rfl
  have F__law_pressed : Fun K "_law_pressed" "_law_pressed" (top 56) (He.fAd K ("_law_pressed", none)) fd__law_pressed := toFun D__law_pressed
  obtain ⟨fd__law_row, D__law_row⟩ := c.t.d.def_ 33 (d := dd "_law_row" 57) rfl
  have F__law_row : Fun K "_law_row" "_law_row" (top 57) (He.fAd K ("_law_row", none)) fd__law_row := toFun D__law_row
  obtain ⟨fd__law_back, D__law_back⟩ := c.t.d.def_ 34 (d := dd "_law_back" 58) rfl
  have F__law_back : Fun K "_law_back" "_law_back" (top 58) (He.fAd K ("_law_back", none)) fd__law_back := toFun D__law_back
  obtain ⟨fd__law_least, D__law_least⟩ := c.t.d.def_ 35 (d := dd "_law_least" 59) rfl
  have F__law_least : Fun K "_law_least" "_law_least" (top 59) (He.fAd K ("_law_least", none)) fd__law_least := toFun D__law_least
  obtain ⟨fd__law_word, D__law_word⟩ := c.t.d.def_ 36 (d := dd "_law_word" 60) rfl
  have F__law_word : Fun K "_law_word" "_law_word" (top 60) (He.fAd K ("_law_word", none)) fd__law_word := toFun D__law_word
  obtain ⟨fd__law_under, D__law_under⟩ := c.t.d.def_ 37 (d := dd "_law_under" 61) rfl
  have F__law_under : Fun K "_law_under" "_law_under" (top 61) (He.fAd K ("_law_under", none)) fd__law_under := toFun D__law_under
  obtain ⟨fd__law_rows_by, D__law_rows_by⟩ := c.t.d.def_ 38 (d := dd "_law_rows_by" 62) rfl
  have F__law_rows_by : Fun K "_law_rows_by" "_law_rows_by" (top 62) (He.fAd K ("_law_rows_by", none)) fd__law_rows_by := toFun D__law_rows_by
  obtain ⟨fd_law, D_law⟩ := c.t.d.def_ 39 (d := dd "law" 63) rfl
  have F_law : Fun K "law" "law" (top 63) (He.fAd K ("law", none)) fd_law := toFun D_law
  obtain ⟨fd_init, D_init⟩ := c.t.d.def_ 40 (d := dm "Bonds" "__init__" "Bonds.__init__" 22 0) rfl
  obtain ⟨fd_len, D_len⟩ := c.t.d.def_ 41 (d := dm "Bonds" "__len__" "Bonds.__len__" 22 1) rfl
  have F_init : Fun K "__init__" "Bonds.__init__" s_init (He.fAd K ("Bonds", some "__init__")) fd_init := toFun D_init
  have F_len : Fun K "__len__" "Bonds.__len__" s_len (He.fAd K ("Bonds", some "__len__")) fd_len := toFun D_len
  have e0 := hfa.symm.trans (He.glo_ok X G (c.t.d.fact 39 (f := .glo "law") rfl))
  cases e0
  have gW : KdAt P w K mg "WEIGHTS" kd_WEIGHTS := kdB_ok (kvs := wts0) (Bool.and_eq_true_iff.mp c.more).1 (He.glo_ok X G (c.t.d.fact 66 (f := .glo "WEIGHTS") rfl)) (by decide)
  have gC : Cls K (He.ga K "Bonds") := He.cls_ok (c.t.d.fact 61 (f := .cls "Bonds") rfl)
  have gT : NoAttr K (He.ga K "Bonds") "table" := He.noat_ok (c.t.d.fact 62 (f := .noat "Bonds" "table") rfl)
  have gV : NoAttr K (He.ga K "Bonds") "weights" := He.noat_ok (c.t.d.fact 63 (f := .noat "Bonds" "weights") rfl)
  have b0 := FunD.bindsA (ps := ["script"]) D_law fun _ _ _ _ _ _ us hl => match us, hl with | [_], _ => rfl
  obtain ⟨xk, xm⟩ := Bool.and_eq_true_iff.mp c.more
  obtain ⟨xn, xm⟩ := Bool.and_eq_true_iff.mp xm
  have hnd : (lamL.map fun x => (He.cT K x.1).2).Nodup := of_decide_eq_true xn
  have xt := xm
  refine ⟨fd_law, fun s v => b0 s [v] rfl, fun base hb hn TB => ?_⟩
  have ok__law_folded := T7.ok__law_folded (P := P) (w := w) (base := base) (mg := mg) (K := K) (f := He.fAd K ("_law_folded", none)) (fd := fd__law_folded) F__law_folded (He.free_ok X G (c.t.d.fact 46 (f := .free "range") rfl)) (He.free_ok X G (c.t.d.fact 47 (f := .free "enumerate") rfl)) (He.free_ok X G (c.t.d.fact 41 (f := .free "int") rfl))
  have ok__law_begun := T7.ok__law_begun (P := P) (w := w) (base := base) (mg := mg) F__law_begun ok__law_folded (He.glo_ok X G (c.t.d.fact 27 (f := .glo "_law_folded") rfl)) D__law_folded.kp (D__law_folded.bindsN fun _ _ _ _ _ _ us hl => match us, hl with | [_], _ => rfl)
  have ok__law_mixed : FnOk P w K mg base CX0 1 _ fd__law_mixed ["cell", "n"] (spD K false sp__law_mixed) := okD F__law_mixed sc__law_mixed [] (by intro ds k R h; first | (rcases h with ⟨_, _, _, rfl, _⟩ | ⟨rfl, _⟩ <;> rfl) | (obtain ⟨rfl, _⟩ := h; rfl) | (obtain ⟨_, rfl, _⟩ := h; rfl) | (obtain ⟨_, _, rfl, _⟩ := h; rfl) | (obtain ⟨_, _, _, rfl, _⟩ := h; rfl) | (obtain ⟨_, _, _, _, rfl, _⟩ := h; rfl) | (obtain ⟨_, _, _, _, _, rfl, _⟩ := h; rfl) | (obtain ⟨_, _, _, _, _, _, rfl, _⟩ := h; rfl) | (obtain ⟨_, _, _, _, _, _, _, rfl, _⟩ := h; rfl)) ⟨_, fun cdv A outer s H E M X0 hr => w__law_mixed (P := P) (w := w) (base := base) (g_int := (He.free_ok X G (c.t.d.fact 41 (f := .free "int") rfl))) _ _ cdv A outer s H E M X0 hr, r__law_mixed⟩
  have c__law_mixed : CalD P w K mg base 1 "_law_mixed" false sp__law_mixed := ⟨_, _, ["cell", "n"], ok__law_mixed, (He.glo_ok X G (c.t.d.fact 26 (f := .glo "_law_mixed") rfl)), D__law_mixed.kp, D__law_mixed.bindsN fun _ _ _ _ _ _ us hl => match us, hl with | [_, _], _ => rfl⟩
  have ok__law_draw : FnOk P w K mg base CX0 2 _ fd__law_draw ["m", "limit"] (spD K true sp__law_draw) := T7.ok__law_draw (fm := 0) F__law_draw c__law_mixed (He.free_ok X G (c.t.d.fact 45 (f := .free "len") rfl)) (He.free_ok X G (c.t.d.fact 41 (f := .free "int") rfl))
  have c__law_draw : CalD P w K mg base 2 "_law_draw" true sp__law_draw := ⟨_, _, ["m", "limit"], ok__law_draw, (He.glo_ok X G (c.t.d.fact 28 (f := .glo "_law_draw") rfl)), D__law_draw.kp, D__law_draw.bindsN fun _ _ _ _ _ _ us hl => match us, hl with | [_, _], _ => rfl⟩
  have ok__law_table := ok__law_tableS (P := P) (w := w) (base := base) (mg := mg) F__law_table (He.free_ok X G (c.t.d.fact 46 (f := .free "range") rfl)) (He.free_ok X G (c.t.d.fact 45 (f := .free "len") rfl)) c__law_draw
  have c__law_table : CalD P w K mg base 3 "_law_table" true sp__law_tableS := ⟨_, _, ["m", "many", "some"], ok__law_table, (He.glo_ok X G (c.t.d.fact 30 (f := .glo "_law_table") rfl)), D__law_table.kp, D__law_table.bindsN fun _ _ _ _ _ _ us hl => match us, hl with | [_, _, _], _ => rfl⟩
  have ok_check_shape : FnOk P w K mg base CX0 1 _ fd_check_shape ["rows"] (spD K false sp_check_shape) := okD F_check_shape sc_check_shape [] (by intro ds k R h; first | (rcases h with ⟨_, _, _, rfl, _⟩ | ⟨rfl, _⟩ <;> rfl) | (obtain ⟨rfl, _⟩ := h; rfl) | (obtain ⟨_, rfl, _⟩ := h; rfl) | (obtain ⟨_, _, rfl, _⟩ := h; rfl) | (obtain ⟨_, _, _, rfl, _⟩ := h; rfl) | (obtain ⟨_, _, _, _, rfl, _⟩ := h; rfl) | (obtain ⟨_, _, _, _, _, rfl, _⟩ := h; rfl) | (obtain ⟨_, _, _, _, _, _, rfl, _⟩ := h; rfl) | (obtain ⟨_, _, _, _, _, _, _, rfl, _⟩ := h; rfl)) ⟨_, fun cdv A outer s H E M X0 hr => w_check_shape (P := P) (w := w) (base := base) (g_isinstance := (He.free_ok X G (c.t.d.fact 40 (f := .free "isinstance") rfl))) (g_list := (He.free_ok X G (c.t.d.fact 43 (f := .free "list") rfl))) (g_tuple := (He.free_ok X G (c.t.d.fact 44 (f := .free "tuple") rfl))) (g_len := (He.free_ok X G (c.t.d.fact 45 (f := .free "len") rfl))) (g_MOST_LETTERS := (He.int_ok X G (c.t.d.fact 54 (f := .int "MOST_LETTERS" (6)) rfl))) _ _ cdv A outer s H E M X0 hr, r_check_shape⟩
  have c_check_shape : CalD P w K mg base 1 "check_shape" false sp_check_shape := ⟨_, _, ["rows"], ok_check_shape, (He.glo_ok X G (c.t.d.fact 3 (f := .glo "check_shape") rfl)), D_check_shape.kp, D_check_shape.bindsN fun _ _ _ _ _ _ us hl => match us, hl with | [_], _ => rfl⟩
  have ok_is_whole : FnOk P w K mg base CX0 1 _ fd_is_whole ["value"] (spD K false sp_is_whole) := okD F_is_whole sc_is_whole [] (by intro ds k R h; first | (rcases h with ⟨_, _, _, rfl, _⟩ | ⟨rfl, _⟩ <;> rfl) | (obtain ⟨rfl, _⟩ := h; rfl) | (obtain ⟨_, rfl, _⟩ := h; rfl) | (obtain ⟨_, _, rfl, _⟩ := h; rfl) | (obtain ⟨_, _, _, rfl, _⟩ := h; rfl) | (obtain ⟨_, _, _, _, rfl, _⟩ := h; rfl) | (obtain ⟨_, _, _, _, _, rfl, _⟩ := h; rfl) | (obtain ⟨_, _, _, _, _, _, rfl, _⟩ := h; rfl) | (obtain ⟨_, _, _, _, _, _, _, rfl, _⟩ := h; rfl)) ⟨_, fun cdv A outer s H E M X0 hr => w_is_whole (P := P) (w := w) (base := base) (g_isinstance := (He.free_ok X G (c.t.d.fact 40 (f := .free "isinstance") rfl))) (g_int := (He.free_ok X G (c.t.d.fact 41 (f := .free "int") rfl))) (g_bool := (He.free_ok X G (c.t.d.fact 42 (f := .free "bool") rfl))) _ _ cdv A outer s H E M X0 hr, r_is_whole⟩
  have c_is_whole : CalD P w K mg base 1 "is_whole" false sp_is_whole := ⟨_, _, ["value"], ok_is_whole, (He.glo_ok X G (c.t.d.fact 0 (f := .glo "is_whole") rfl)), D_is_whole.kp, D_is_whole.bindsN fun _ _ _ _ _ _ us hl => match us, hl with | [_], _ => rfl⟩
  have ok_can_stand : FnOk P w K mg base CX0 2 _ fd_can_stand ["rows", "one", "other"] (spD K false sp_can_stand) := okD F_can_stand sc_can_stand [] (by intro ds k R h; first | (rcases h with ⟨_, _, _, rfl, _⟩ | ⟨rfl, _⟩ <;> rfl) | (obtain ⟨rfl, _⟩ := h; rfl) | (obtain ⟨_, rfl, _⟩ := h; rfl) | (obtain ⟨_, _, rfl, _⟩ := h; rfl) | (obtain ⟨_, _, _, rfl, _⟩ := h; rfl) | (obtain ⟨_, _, _, _, rfl, _⟩ := h; rfl) | (obtain ⟨_, _, _, _, _, rfl, _⟩ := h; rfl) | (obtain ⟨_, _, _, _, _, _, rfl, _⟩ := h; rfl) | (obtain ⟨_, _, _, _, _, _, _, rfl, _⟩ := h; rfl)) ⟨_, fun cdv A outer s H E M X0 hr => w_can_stand (P := P) (w := w) (base := base) (g_OWN_BOND := (He.int_ok X G (c.t.d.fact 56 (f := .int "OWN_BOND" (1)) rfl))) (g_WEIGHTS := gW) (c_is_whole := c_is_whole) _ _ cdv A outer s H E M X0 hr, r_can_stand⟩
  have c_can_stand : CalD P w K mg base 2 "can_stand" false sp_can_stand := ⟨_, _, ["rows", "one", "other"], ok_can_stand, (He.glo_ok X G (c.t.d.fact 2 (f := .glo "can_stand") rfl)), D_can_stand.kp, D_can_stand.bindsN fun _ _ _ _ _ _ us hl => match us, hl with | [_, _, _], _ => rfl⟩
  have ok_check_table : FnOk P w K mg base CX0 3 _ fd_check_table ["rows"] (spD K false sp_check_table) := okD F_check_table sc_check_table [] (by intro ds k R h; first | (rcases h with ⟨_, _, _, rfl, _⟩ | ⟨rfl, _⟩ <;> rfl) | (obtain ⟨rfl, _⟩ := h; rfl) | (obtain ⟨_, rfl, _⟩ := h; rfl) | (obtain ⟨_, _, rfl, _⟩ := h; rfl) | (obtain ⟨_, _, _, rfl, _⟩ := h; rfl) | (obtain ⟨_, _, _, _, rfl, _⟩ := h; rfl) | (obtain ⟨_, _, _, _, _, rfl, _⟩ := h; rfl) | (obtain ⟨_, _, _, _, _, _, rfl, _⟩ := h; rfl) | (obtain ⟨_, _, _, _, _, _, _, rfl, _⟩ := h; rfl)) ⟨_, fun cdv A outer s H E M X0 hr => w_check_table (P := P) (w := w) (base := base) (g_list := (He.free_ok X G (c.t.d.fact 43 (f := .free "list") rfl))) (g_range := (He.free_ok X G (c.t.d.fact 46 (f := .free "range") rfl))) (g_len := (He.free_ok X G (c.t.d.fact 45 (f := .free "len") rfl))) (c_check_shape := c_check_shape) (c_can_stand := c_can_stand) _ _ cdv A outer s H E M X0 hr, r_check_table⟩
  have c_check_table : CalD P w K mg base 3 "check_table" false sp_check_table := ⟨_, _, ["rows"], ok_check_table, (He.glo_ok X G (c.t.d.fact 4 (f := .glo "check_table") rfl)), D_check_table.kp, D_check_table.bindsN fun _ _ _ _ _ _ us hl => match us, hl with | [_], _ => rfl⟩
  have ok_weight_of : FnOk P w K mg base CX0 1 _ fd_weight_of ["table", "one", "other"] (spD K false sp_weight_of) := okD F_weight_of sc_weight_of [] (by intro ds k R h; first | (rcases h with ⟨_, _, _, rfl, _⟩ | ⟨rfl, _⟩ <;> rfl) | (obtain ⟨rfl, _⟩ := h; rfl) | (obtain ⟨_, rfl, _⟩ := h; rfl) | (obtain ⟨_, _, rfl, _⟩ := h; rfl) | (obtain ⟨_, _, _, rfl, _⟩ := h; rfl) | (obtain ⟨_, _, _, _, rfl, _⟩ := h; rfl) | (obtain ⟨_, _, _, _, _, rfl, _⟩ := h; rfl) | (obtain ⟨_, _, _, _, _, _, rfl, _⟩ := h; rfl) | (obtain ⟨_, _, _, _, _, _, _, rfl, _⟩ := h; rfl)) ⟨_, fun cdv A outer s H E M X0 hr => w_weight_of (P := P) (w := w) (base := base) (g_OWN_WEIGHT := (He.int_ok X G (c.t.d.fact 57 (f := .int "OWN_WEIGHT" (-2)) rfl))) (g_WEIGHTS := gW) _ _ cdv A outer s H E M X0 hr, r_weight_of⟩
  have c_weight_of : CalD P w K mg base 1 "weight_of" false sp_weight_of := ⟨_, _, ["table", "one", "other"], ok_weight_of, (He.glo_ok X G (c.t.d.fact 5 (f := .glo "weight_of") rfl)), D_weight_of.kp, D_weight_of.bindsN fun _ _ _ _ _ _ us hl => match us, hl with | [_, _, _], _ => rfl⟩
  have ok_weights_from : FnOk P w K mg base CX0 2 _ fd_weights_from ["table", "one"] (spD K false sp_weights_from) := okD F_weights_from sc_weights_from [] (by intro ds k R h; first | (rcases h with ⟨_, _, _, rfl, _⟩ | ⟨rfl, _⟩ <;> rfl) | (obtain ⟨rfl, _⟩ := h; rfl) | (obtain ⟨_, rfl, _⟩ := h; rfl) | (obtain ⟨_, _, rfl, _⟩ := h; rfl) | (obtain ⟨_, _, _, rfl, _⟩ := h; rfl) | (obtain ⟨_, _, _, _, rfl, _⟩ := h; rfl) | (obtain ⟨_, _, _, _, _, rfl, _⟩ := h; rfl) | (obtain ⟨_, _, _, _, _, _, rfl, _⟩ := h; rfl) | (obtain ⟨_, _, _, _, _, _, _, rfl, _⟩ := h; rfl)) ⟨_, fun cdv A outer s H E M X0 hr => w_weights_from (P := P) (w := w) (base := base) (g_tuple := (He.free_ok X G (c.t.d.fact 44 (f := .free "tuple") rfl))) (g_range := (He.free_ok X G (c.t.d.fact 46 (f := .free "range") rfl))) (g_len := (He.free_ok X G (c.t.d.fact 45 (f := .free "len") rfl))) (c_weight_of := c_weight_of) _ _ cdv A outer s H E M X0 hr, r_weights_from⟩
  have c_weights_from : CalD P w K mg base 2 "weights_from" false sp_weights_from := ⟨_, _, ["table", "one"], ok_weights_from, (He.glo_ok X G (c.t.d.fact 6 (f := .glo "weights_from") rfl)), D_weights_from.kp, D_weights_from.bindsN fun _ _ _ _ _ _ us hl => match us, hl with | [_, _], _ => rfl⟩
  have c_Bonds : MakD P w K mg base 4 "Bonds" (He.ga K "Bonds") (sp_Bonds (He.ga K "Bonds")) := ⟨_, _, ["self", "rows"], He.mkr_ok (c.t.d.fact 64 (f := .mkr "Bonds") rfl), ok_init F_init (He.free_ok X G (c.t.d.fact 44 (f := .free "tuple") rfl)) (He.free_ok X G (c.t.d.fact 46 (f := .free "range") rfl)) (He.free_ok X G (c.t.d.fact 45 (f := .free "len") rfl)) c_check_table c_weights_from gC gT gV, (He.glo_ok X G (c.t.d.fact 60 (f := .glo "Bonds") rfl)), D_init.bindsN fun _ _ _ _ _ _ us hl => match us, hl with | [_, _], _ => rfl⟩
  have ok__law_word : FnOk P w K mg base CX0 3 _ fd__law_word ["m", "many", "most"] (spD K true sp__law_wordL) := okD F__law_word sc__law_word [] (by intro ds k R h; first | (rcases h with ⟨_, _, _, rfl, _⟩ | ⟨rfl, _⟩ <;> rfl) | (obtain ⟨rfl, _⟩ := h; rfl) | (obtain ⟨_, rfl, _⟩ := h; rfl) | (obtain ⟨_, _, rfl, _⟩ := h; rfl) | (obtain ⟨_, _, _, rfl, _⟩ := h; rfl) | (obtain ⟨_, _, _, _, rfl, _⟩ := h; rfl) | (obtain ⟨_, _, _, _, _, rfl, _⟩ := h; rfl) | (obtain ⟨_, _, _, _, _, _, rfl, _⟩ := h; rfl) | (obtain ⟨_, _, _, _, _, _, _, rfl, _⟩ := h; rfl)) ⟨_, fun cdv A outer s H E M X0 hr => w__law_word (P := P) (w := w) (base := base) (g_range := (He.free_ok X G (c.t.d.fact 46 (f := .free "range") rfl))) (c__law_draw := c__law_draw) _ _ cdv A outer s H E M X0 hr, r__law_wordL⟩
  have c__law_word : CalD P w K mg base 3 "_law_word" true sp__law_wordL := ⟨_, _, ["m", "many", "most"], ok__law_word, (He.glo_ok X G (c.t.d.fact 36 (f := .glo "_law_word") rfl)), D__law_word.kp, D__law_word.bindsN fun _ _ _ _ _ _ us hl => match us, hl with | [_, _, _], _ => rfl⟩
  have ok__law_weight : FnOk P w K mg base CX0 1 _ fd__law_weight ["table", "one", "other"] (spD K false sp__law_weightL) := okD F__law_weight sc__law_weight [] (by intro ds k R h; first | (rcases h with ⟨_, _, _, rfl, _⟩ | ⟨rfl, _⟩ <;> rfl) | (obtain ⟨rfl, _⟩ := h; rfl) | (obtain ⟨_, rfl, _⟩ := h; rfl) | (obtain ⟨_, _, rfl, _⟩ := h; rfl) | (obtain ⟨_, _, _, rfl, _⟩ := h; rfl) | (obtain ⟨_, _, _, _, rfl, _⟩ := h; rfl) | (obtain ⟨_, _, _, _, _, rfl, _⟩ := h; rfl) | (obtain ⟨_, _, _, _, _, _, rfl, _⟩ := h; rfl) | (obtain ⟨_, _, _, _, _, _, _, rfl, _⟩ := h; rfl)) ⟨_, fun cdv A outer s H E M X0 hr => w__law_weight (P := P) (w := w) (base := base)  _ _ cdv A outer s H E M X0 hr, r__law_weightL⟩
  have c__law_weight : CalD P w K mg base 1 "_law_weight" false sp__law_weightL := ⟨_, _, ["table", "one", "other"], ok__law_weight, (He.glo_ok X G (c.t.d.fact 31 (f := .glo "_law_weight") rfl)), D__law_weight.kp, D__law_weight.bindsN fun _ _ _ _ _ _ us hl => match us, hl with | [_, _, _], _ => rfl⟩
  have ok__law_pressed : FnOk P w K mg base CX0 2 _ fd__law_pressed ["table", "row", "letter"] (spD K false sp__law_pressedL) := okD F__law_pressed sc__law_pressed [4] (by intro ds k R h; first | (rcases h with ⟨_, _, _, rfl, _⟩ | ⟨rfl, _⟩ <;> rfl) | (obtain ⟨rfl, _⟩ := h; rfl) | (obtain ⟨_, rfl, _⟩ := h; rfl) | (obtain ⟨_, _, rfl, _⟩ := h; rfl) | (obtain ⟨_, _, _, rfl, _⟩ := h; rfl) | (obtain ⟨_, _, _, _, rfl, _⟩ := h; rfl) | (obtain ⟨_, _, _, _, _, rfl, _⟩ := h; rfl) | (obtain ⟨_, _, _, _, _, _, rfl, _⟩ := h; rfl) | (obtain ⟨_, _, _, _, _, _, _, rfl, _⟩ := h; rfl)) ⟨_, fun cdv A outer s H E M X0 hr => w__law_pressed (P := P) (w := w) (base := base) (g_range := (He.free_ok X G (c.t.d.fact 46 (f := .free "range") rfl))) (g_len := (He.free_ok X G (c.t.d.fact 45 (f := .free "len") rfl))) (g_tuple := (He.free_ok X G (c.t.d.fact 44 (f := .free "tuple") rfl))) (c__law_weight := c__law_weight) _ _ cdv A outer s H E M X0 hr, r__law_pressedL⟩
  have c__law_pressed : CalD P w K mg base 2 "_law_pressed" false sp__law_pressedL := ⟨_, _, ["table", "row", "letter"], ok__law_pressed, (He.glo_ok X G (c.t.d.fact 32 (f := .glo "_law_pressed") rfl)), D__law_pressed.kp, D__law_pressed.bindsN fun _ _ _ _ _ _ us hl => match us, hl with | [_, _, _], _ => rfl⟩
  have ok__law_back : FnOk P w K mg base CX0 3 _ fd__law_back ["table", "row"] (spD K false sp__law_backL) := okD F__law_back sc__law_back [2] (by intro ds k R h; first | (rcases h with ⟨_, _, _, rfl, _⟩ | ⟨rfl, _⟩ <;> rfl) | (obtain ⟨rfl, _⟩ := h; rfl) | (obtain ⟨_, rfl, _⟩ := h; rfl) | (obtain ⟨_, _, rfl, _⟩ := h; rfl) | (obtain ⟨_, _, _, rfl, _⟩ := h; rfl) | (obtain ⟨_, _, _, _, rfl, _⟩ := h; rfl) | (obtain ⟨_, _, _, _, _, rfl, _⟩ := h; rfl) | (obtain ⟨_, _, _, _, _, _, rfl, _⟩ := h; rfl) | (obtain ⟨_, _, _, _, _, _, _, rfl, _⟩ := h; rfl)) ⟨_, fun cdv A outer s H E M X0 hr => w__law_back (P := P) (w := w) (base := base) (g_min := (He.free_ok X G (c.t.d.fact 53 (f := .free "min") rfl))) (g_range := (He.free_ok X G (c.t.d.fact 46 (f := .free "range") rfl))) (g_len := (He.free_ok X G (c.t.d.fact 45 (f := .free "len") rfl))) (c__law_pressed := c__law_pressed) _ _ cdv A outer s H E M X0 hr, r__law_backL⟩
  have c__law_back : CalD P w K mg base 3 "_law_back" false sp__law_backL := ⟨_, _, ["table", "row"], ok__law_back, (He.glo_ok X G (c.t.d.fact 34 (f := .glo "_law_back") rfl)), D__law_back.kp, D__law_back.bindsN fun _ _ _ _ _ _ us hl => match us, hl with | [_, _], _ => rfl⟩
  have ok__law_row : FnOk P w K mg base CX0 3 _ fd__law_row ["table", "word"] (spD K false sp__law_rowL) := okD F__law_row sc__law_row [] (by intro ds k R h; first | (rcases h with ⟨_, _, _, rfl, _⟩ | ⟨rfl, _⟩ <;> rfl) | (obtain ⟨rfl, _⟩ := h; rfl) | (obtain ⟨_, rfl, _⟩ := h; rfl) | (obtain ⟨_, _, rfl, _⟩ := h; rfl) | (obtain ⟨_, _, _, rfl, _⟩ := h; rfl) | (obtain ⟨_, _, _, _, rfl, _⟩ := h; rfl) | (obtain ⟨_, _, _, _, _, rfl, _⟩ := h; rfl) | (obtain ⟨_, _, _, _, _, _, rfl, _⟩ := h; rfl) | (obtain ⟨_, _, _, _, _, _, _, rfl, _⟩ := h; rfl)) ⟨_, fun cdv A outer s H E M X0 hr => w__law_row (P := P) (w := w) (base := base) (g_len := (He.free_ok X G (c.t.d.fact 45 (f := .free "len") rfl))) (c__law_pressed := c__law_pressed) _ _ cdv A outer s H E M X0 hr, r__law_rowL⟩
  have c__law_row : CalD P w K mg base 3 "_law_row" false sp__law_rowL := ⟨_, _, ["table", "word"], ok__law_row, (He.glo_ok X G (c.t.d.fact 33 (f := .glo "_law_row") rfl)), D__law_row.kp, D__law_row.bindsN fun _ _ _ _ _ _ us hl => match us, hl with | [_, _], _ => rfl⟩
  have ok__law_least : FnOk P w K mg base CX0 4 _ fd__law_least ["table", "word"] (spD K false sp__law_leastL) := okD F__law_least sc__law_least [] (by intro ds k R h; first | (rcases h with ⟨_, _, _, rfl, _⟩ | ⟨rfl, _⟩ <;> rfl) | (obtain ⟨rfl, _⟩ := h; rfl) | (obtain ⟨_, rfl, _⟩ := h; rfl) | (obtain ⟨_, _, rfl, _⟩ := h; rfl) | (obtain ⟨_, _, _, rfl, _⟩ := h; rfl) | (obtain ⟨_, _, _, _, rfl, _⟩ := h; rfl) | (obtain ⟨_, _, _, _, _, rfl, _⟩ := h; rfl) | (obtain ⟨_, _, _, _, _, _, rfl, _⟩ := h; rfl) | (obtain ⟨_, _, _, _, _, _, _, rfl, _⟩ := h; rfl)) ⟨_, fun cdv A outer s H E M X0 hr => w__law_least (P := P) (w := w) (base := base) (g_tuple := (He.free_ok X G (c.t.d.fact 44 (f := .free "tuple") rfl))) (g_list := (He.free_ok X G (c.t.d.fact 43 (f := .free "list") rfl))) (c__law_back := c__law_back) (c__law_row := c__law_row) _ _ cdv A outer s H E M X0 hr, r__law_leastL⟩
  have c__law_least : CalD P w K mg base 4 "_law_least" false sp__law_leastL := ⟨_, _, ["table", "word"], ok__law_least, (He.glo_ok X G (c.t.d.fact 35 (f := .glo "_law_least") rfl)), D__law_least.kp, D__law_least.bindsN fun _ _ _ _ _ _ us hl => match us, hl with | [_, _], _ => rfl⟩
  have ok__law_under : FnOk P w K mg base CX0 5 _ fd__law_under ["table", "word"] (spD K false sp__law_under) := okD F__law_under sc__law_under [] (by intro ds k R h; first | (rcases h with ⟨_, _, _, rfl, _⟩ | ⟨rfl, _⟩ <;> rfl) | (obtain ⟨rfl, _⟩ := h; rfl) | (obtain ⟨_, rfl, _⟩ := h; rfl) | (obtain ⟨_, _, rfl, _⟩ := h; rfl) | (obtain ⟨_, _, _, rfl, _⟩ := h; rfl) | (obtain ⟨_, _, _, _, rfl, _⟩ := h; rfl) | (obtain ⟨_, _, _, _, _, rfl, _⟩ := h; rfl) | (obtain ⟨_, _, _, _, _, _, rfl, _⟩ := h; rfl) | (obtain ⟨_, _, _, _, _, _, _, rfl, _⟩ := h; rfl)) ⟨_, fun cdv A outer s H E M X0 hr => w__law_under (P := P) (w := w) (base := base) (g_len := (He.free_ok X G (c.t.d.fact 45 (f := .free "len") rfl))) (g_sorted := (He.free_ok X G (c.t.d.fact 50 (f := .free "sorted") rfl))) (g_set := (He.free_ok X G (c.t.d.fact 51 (f := .free "set") rfl))) (c__law_least := c__law_least) (c__law_pressed := c__law_pressed) _ _ cdv A outer s H E M X0 hr, r__law_under⟩
  have c__law_under : CalD P w K mg base 5 "_law_under" false sp__law_under := ⟨_, _, ["table", "word"], ok__law_under, (He.glo_ok X G (c.t.d.fact 37 (f := .glo "_law_under") rfl)), D__law_under.kp, D__law_under.bindsN fun _ _ _ _ _ _ us hl => match us, hl with | [_, _], _ => rfl⟩
  have ok__law_rows_by : FnOk P w K mg base CX0 3 _ fd__law_rows_by ["table", "word"] (spD K false sp__law_rows_by) := okD F__law_rows_by sc__law_rows_by [2] (by intro ds k R h; first | (rcases h with ⟨_, _, _, rfl, _⟩ | ⟨rfl, _⟩ <;> rfl) | (obtain ⟨rfl, _⟩ := h; rfl) | (obtain ⟨_, rfl, _⟩ := h; rfl) | (obtain ⟨_, _, rfl, _⟩ := h; rfl) | (obtain ⟨_, _, _, rfl, _⟩ := h; rfl) | (obtain ⟨_, _, _, _, rfl, _⟩ := h; rfl) | (obtain ⟨_, _, _, _, _, rfl, _⟩ := h; rfl) | (obtain ⟨_, _, _, _, _, _, rfl, _⟩ := h; rfl) | (obtain ⟨_, _, _, _, _, _, _, rfl, _⟩ := h; rfl)) ⟨_, fun cdv A outer s H E M X0 hr => w__law_rows_by (P := P) (w := w) (base := base) (g_len := (He.free_ok X G (c.t.d.fact 45 (f := .free "len") rfl))) (g_list := (He.free_ok X G (c.t.d.fact 43 (f := .free "list") rfl))) (g_sorted := (He.free_ok X G (c.t.d.fact 50 (f := .free "sorted") rfl))) (c__law_pressed := c__law_pressed) _ _ cdv A outer s H E M X0 hr, r__law_rows_by⟩
  have c__law_rows_by : CalD P w K mg base 3 "_law_rows_by" false sp__law_rows_by := ⟨_, _, ["table", "word"], ok__law_rows_by, (He.glo_ok X G (c.t.d.fact 38 (f := .glo "_law_rows_by") rfl)), D__law_rows_by.kp, D__law_rows_by.bindsN fun _ _ _ _ _ _ us hl => match us, hl with | [_, _], _ => rfl⟩
  have c_len_Bonds : LenD P w K mg base 1 (He.ga K "Bonds") (sp_len_Bonds (He.ga K "Bonds")) := ⟨_, _, ["self"], He.meth_ok (c.t.d.fact 65 (f := .meth "Bonds" "__len__") rfl), ok_len F_len (He.free_ok X G (c.t.d.fact 45 (f := .free "len") rfl)) gC gT, D_len.bindsN fun _ _ _ _ _ _ us hl => match us, hl with | [_], _ => rfl⟩
  have ok_first_row : FnOk P w K mg base CX0 3 _ fd_first_row ["bonds"] (spD K false (sp_first_row (He.ga K "Bonds"))) := okD F_first_row sc_first_row [] (by intro ds k R h; first | (rcases h with ⟨_, _, _, rfl, _⟩ | ⟨rfl, _⟩ <;> rfl) | (obtain ⟨rfl, _⟩ := h; rfl) | (obtain ⟨_, rfl, _⟩ := h; rfl) | (obtain ⟨_, _, rfl, _⟩ := h; rfl) | (obtain ⟨_, _, _, rfl, _⟩ := h; rfl) | (obtain ⟨_, _, _, _, rfl, _⟩ := h; rfl) | (obtain ⟨_, _, _, _, _, rfl, _⟩ := h; rfl) | (obtain ⟨_, _, _, _, _, _, rfl, _⟩ := h; rfl) | (obtain ⟨_, _, _, _, _, _, _, rfl, _⟩ := h; rfl)) ⟨_, fun cdv A outer s H E M X0 hr => w_first_row (BC := He.ga K "Bonds") (P := P) (w := w) (base := base) (g_len := (He.free_ok X G (c.t.d.fact 45 (f := .free "len") rfl))) (c_len_Bonds := c_len_Bonds) _ _ cdv A outer s H E M X0 hr, r_first_row (He.ga K "Bonds")⟩
  have c_first_row : CalD P w K mg base 3 "first_row" false (sp_first_row (He.ga K "Bonds")) := ⟨_, _, ["bonds"], ok_first_row, (He.glo_ok X G (c.t.d.fact 9 (f := .glo "first_row") rfl)), D_first_row.kp, D_first_row.bindsN fun _ _ _ _ _ _ us hl => match us, hl with | [_], _ => rfl⟩
  have ok_is_row : FnOk P w K mg base CX0 3 _ fd_is_row ["bonds", "value"] (spD K false (sp_is_row (He.ga K "Bonds"))) := okD F_is_row sc_is_row [] (by intro ds k R h; first | (rcases h with ⟨_, _, _, rfl, _⟩ | ⟨rfl, _⟩ <;> rfl) | (obtain ⟨rfl, _⟩ := h; rfl) | (obtain ⟨_, rfl, _⟩ := h; rfl) | (obtain ⟨_, _, rfl, _⟩ := h; rfl) | (obtain ⟨_, _, _, rfl, _⟩ := h; rfl) | (obtain ⟨_, _, _, _, rfl, _⟩ := h; rfl) | (obtain ⟨_, _, _, _, _, rfl, _⟩ := h; rfl) | (obtain ⟨_, _, _, _, _, _, rfl, _⟩ := h; rfl) | (obtain ⟨_, _, _, _, _, _, _, rfl, _⟩ := h; rfl)) ⟨_, fun cdv A outer s H E M X0 hr => w_is_row (BC := He.ga K "Bonds") (P := P) (w := w) (base := base) (g_isinstance := (He.free_ok X G (c.t.d.fact 40 (f := .free "isinstance") rfl))) (g_tuple := (He.free_ok X G (c.t.d.fact 44 (f := .free "tuple") rfl))) (g_len := (He.free_ok X G (c.t.d.fact 45 (f := .free "len") rfl))) (g_all := (He.free_ok X G (c.t.d.fact 48 (f := .free "all") rfl))) (c_is_whole := c_is_whole) (c_len_Bonds := c_len_Bonds) _ _ cdv A outer s H E M X0 hr, r_is_row (He.ga K "Bonds")⟩
  have c_is_row : CalD P w K mg base 3 "is_row" false (sp_is_row (He.ga K "Bonds")) := ⟨_, _, ["bonds", "value"], ok_is_row, (He.glo_ok X G (c.t.d.fact 8 (f := .glo "is_row") rfl)), D_is_row.kp, D_is_row.bindsN fun _ _ _ _ _ _ us hl => match us, hl with | [_, _], _ => rfl⟩
  have ok_fallen : FnOk P w K mg base CX0 1 _ fd_fallen ["row"] (spD K false sp_fallen) := okD F_fallen sc_fallen [] (by intro ds k R h; first | (rcases h with ⟨_, _, _, rfl, _⟩ | ⟨rfl, _⟩ <;> rfl) | (obtain ⟨rfl, _⟩ := h; rfl) | (obtain ⟨_, rfl, _⟩ := h; rfl) | (obtain ⟨_, _, rfl, _⟩ := h; rfl) | (obtain ⟨_, _, _, rfl, _⟩ := h; rfl) | (obtain ⟨_, _, _, _, rfl, _⟩ := h; rfl) | (obtain ⟨_, _, _, _, _, rfl, _⟩ := h; rfl) | (obtain ⟨_, _, _, _, _, _, rfl, _⟩ := h; rfl) | (obtain ⟨_, _, _, _, _, _, _, rfl, _⟩ := h; rfl)) ⟨_, fun cdv A outer s H E M X0 hr => w_fallen (P := P) (w := w) (base := base) (g_tuple := (He.free_ok X G (c.t.d.fact 44 (f := .free "tuple") rfl))) (g_enumerate := (He.free_ok X G (c.t.d.fact 47 (f := .free "enumerate") rfl))) _ _ cdv A outer s H E M X0 hr, r_fallen⟩
  have c_fallen : CalD P w K mg base 1 "fallen" false sp_fallen := ⟨_, _, ["row"], ok_fallen, (He.glo_ok X G (c.t.d.fact 12 (f := .glo "fallen") rfl)), D_fallen.kp, D_fallen.bindsN fun _ _ _ _ _ _ us hl => match us, hl with | [_], _ => rfl⟩
  have ok_pressed : FnOk P w K mg base CX0 1 _ fd_pressed ["bonds", "row", "letter"] (spD K false (sp_pressed (He.ga K "Bonds"))) := okD F_pressed sc_pressed [] (by intro ds k R h; first | (rcases h with ⟨_, _, _, rfl, _⟩ | ⟨rfl, _⟩ <;> rfl) | (obtain ⟨rfl, _⟩ := h; rfl) | (obtain ⟨_, rfl, _⟩ := h; rfl) | (obtain ⟨_, _, rfl, _⟩ := h; rfl) | (obtain ⟨_, _, _, rfl, _⟩ := h; rfl) | (obtain ⟨_, _, _, _, rfl, _⟩ := h; rfl) | (obtain ⟨_, _, _, _, _, rfl, _⟩ := h; rfl) | (obtain ⟨_, _, _, _, _, _, rfl, _⟩ := h; rfl) | (obtain ⟨_, _, _, _, _, _, _, rfl, _⟩ := h; rfl)) ⟨_, fun cdv A outer s H E M X0 hr => w_pressed (BC := He.ga K "Bonds") (P := P) (w := w) (base := base) (g_tuple := (He.free_ok X G (c.t.d.fact 44 (f := .free "tuple") rfl))) (g_zip := (He.free_ok X G (c.t.d.fact 49 (f := .free "zip") rfl))) (g_Bonds := gC) (g_Bonds_weights := gV) _ _ cdv A outer s H E M X0 hr, r_pressed (He.ga K "Bonds")⟩
  have c_pressed : CalD P w K mg base 1 "pressed" false (sp_pressed (He.ga K "Bonds")) := ⟨_, _, ["bonds", "row", "letter"], ok_pressed, (He.glo_ok X G (c.t.d.fact 10 (f := .glo "pressed") rfl)), D_pressed.kp, D_pressed.bindsN fun _ _ _ _ _ _ us hl => match us, hl with | [_, _, _], _ => rfl⟩
  have ok_way_down : FnOk P w K mg base CX0 2 _ fd_way_down ["bonds", "row"] (spD K false (sp_way_down (He.ga K "Bonds"))) := okD F_way_down sc_way_down [2] (by intro ds k R h; first | (rcases h with ⟨_, _, _, rfl, _⟩ | ⟨rfl, _⟩ <;> rfl) | (obtain ⟨rfl, _⟩ := h; rfl) | (obtain ⟨_, rfl, _⟩ := h; rfl) | (obtain ⟨_, _, rfl, _⟩ := h; rfl) | (obtain ⟨_, _, _, rfl, _⟩ := h; rfl) | (obtain ⟨_, _, _, _, rfl, _⟩ := h; rfl) | (obtain ⟨_, _, _, _, _, rfl, _⟩ := h; rfl) | (obtain ⟨_, _, _, _, _, _, rfl, _⟩ := h; rfl) | (obtain ⟨_, _, _, _, _, _, _, rfl, _⟩ := h; rfl)) ⟨_, fun cdv A outer s H E M X0 hr => w_way_down (BC := He.ga K "Bonds") (P := P) (w := w) (base := base) (g_len := (He.free_ok X G (c.t.d.fact 45 (f := .free "len") rfl))) (g_MOST_WORD := (He.int_ok X G (c.t.d.fact 55 (f := .int "MOST_WORD" (60)) rfl))) (c_fallen := c_fallen) (c_pressed := c_pressed) _ _ cdv A outer s H E M X0 hr, r_way_down (He.ga K "Bonds")⟩
  have c_way_down : CalD P w K mg base 2 "way_down" false (sp_way_down (He.ga K "Bonds")) := ⟨_, _, ["bonds", "row"], ok_way_down, (He.glo_ok X G (c.t.d.fact 13 (f := .glo "way_down") rfl)), D_way_down.kp, D_way_down.bindsN fun _ _ _ _ _ _ us hl => match us, hl with | [_, _], _ => rfl⟩
  have ok_row_behind : FnOk P w K mg base CX0 4 _ fd_row_behind ["bonds", "letters"] (spD K false (sp_row_behind (He.ga K "Bonds"))) := okD F_row_behind sc_row_behind [] (by intro ds k R h; first | (rcases h with ⟨_, _, _, rfl, _⟩ | ⟨rfl, _⟩ <;> rfl) | (obtain ⟨rfl, _⟩ := h; rfl) | (obtain ⟨_, rfl, _⟩ := h; rfl) | (obtain ⟨_, _, rfl, _⟩ := h; rfl) | (obtain ⟨_, _, _, rfl, _⟩ := h; rfl) | (obtain ⟨_, _, _, _, rfl, _⟩ := h; rfl) | (obtain ⟨_, _, _, _, _, rfl, _⟩ := h; rfl) | (obtain ⟨_, _, _, _, _, _, rfl, _⟩ := h; rfl) | (obtain ⟨_, _, _, _, _, _, _, rfl, _⟩ := h; rfl)) ⟨_, fun cdv A outer s H E M X0 hr => w_row_behind (BC := He.ga K "Bonds") (P := P) (w := w) (base := base) (c_first_row := c_first_row) (c_pressed := c_pressed) _ _ cdv A outer s H E M X0 hr, r_row_behind (He.ga K "Bonds")⟩
  have c_row_behind : CalD P w K mg base 4 "row_behind" false (sp_row_behind (He.ga K "Bonds")) := ⟨_, _, ["bonds", "letters"], ok_row_behind, (He.glo_ok X G (c.t.d.fact 11 (f := .glo "row_behind") rfl)), D_row_behind.kp, D_row_behind.bindsN fun _ _ _ _ _ _ us hl => match us, hl with | [_, _], _ => rfl⟩
  have ok_word_of : FnOk P w K mg base CX0 5 _ fd_word_of ["bonds", "row"] (spD K false (sp_word_of (He.ga K "Bonds"))) := okD F_word_of sc_word_of [] (by intro ds k R h; first | (rcases h with ⟨_, _, _, rfl, _⟩ | ⟨rfl, _⟩ <;> rfl) | (obtain ⟨rfl, _⟩ := h; rfl) | (obtain ⟨_, rfl, _⟩ := h; rfl) | (obtain ⟨_, _, rfl, _⟩ := h; rfl) | (obtain ⟨_, _, _, rfl, _⟩ := h; rfl) | (obtain ⟨_, _, _, _, rfl, _⟩ := h; rfl) | (obtain ⟨_, _, _, _, _, rfl, _⟩ := h; rfl) | (obtain ⟨_, _, _, _, _, _, rfl, _⟩ := h; rfl) | (obtain ⟨_, _, _, _, _, _, _, rfl, _⟩ := h; rfl)) ⟨_, fun cdv A outer s H E M X0 hr => w_word_of (BC := He.ga K "Bonds") (P := P) (w := w) (base := base) (g_tuple := (He.free_ok X G (c.t.d.fact 44 (f := .free "tuple") rfl))) (c_is_row := c_is_row) (c_way_down := c_way_down) (c_first_row := c_first_row) (c_row_behind := c_row_behind) _ _ cdv A outer s H E M X0 hr, r_word_of (He.ga K "Bonds")⟩
  have c_word_of : CalD P w K mg base 5 "word_of" false (sp_word_of (He.ga K "Bonds")) := ⟨_, _, ["bonds", "row"], ok_word_of, (He.glo_ok X G (c.t.d.fact 15 (f := .glo "word_of") rfl)), D_word_of.kp, D_word_of.bindsN fun _ _ _ _ _ _ us hl => match us, hl with | [_, _], _ => rfl⟩
  have ok_is_letter : FnOk P w K mg base CX0 2 _ fd_is_letter ["value", "many"] (spD K false sp_is_letter) := okD F_is_letter sc_is_letter [] (by intro ds k R h; first | (rcases h with ⟨_, _, _, rfl, _⟩ | ⟨rfl, _⟩ <;> rfl) | (obtain ⟨rfl, _⟩ := h; rfl) | (obtain ⟨_, rfl, _⟩ := h; rfl) | (obtain ⟨_, _, rfl, _⟩ := h; rfl) | (obtain ⟨_, _, _, rfl, _⟩ := h; rfl) | (obtain ⟨_, _, _, _, rfl, _⟩ := h; rfl) | (obtain ⟨_, _, _, _, _, rfl, _⟩ := h; rfl) | (obtain ⟨_, _, _, _, _, _, rfl, _⟩ := h; rfl) | (obtain ⟨_, _, _, _, _, _, _, rfl, _⟩ := h; rfl)) ⟨_, fun cdv A outer s H E M X0 hr => w_is_letter (P := P) (w := w) (base := base) (c_is_whole := c_is_whole) _ _ cdv A outer s H E M X0 hr, r_is_letter⟩
  have c_is_letter : CalD P w K mg base 2 "is_letter" false sp_is_letter := ⟨_, _, ["value", "many"], ok_is_letter, (He.glo_ok X G (c.t.d.fact 1 (f := .glo "is_letter") rfl)), D_is_letter.kp, D_is_letter.bindsN fun _ _ _ _ _ _ us hl => match us, hl with | [_, _], _ => rfl⟩
  have ok_as_word : FnOk P w K mg base CX0 3 _ fd_as_word ["value", "many"] (spD K false sp_as_word) := okD F_as_word sc_as_word [] (by intro ds k R h; first | (rcases h with ⟨_, _, _, rfl, _⟩ | ⟨rfl, _⟩ <;> rfl) | (obtain ⟨rfl, _⟩ := h; rfl) | (obtain ⟨_, rfl, _⟩ := h; rfl) | (obtain ⟨_, _, rfl, _⟩ := h; rfl) | (obtain ⟨_, _, _, rfl, _⟩ := h; rfl) | (obtain ⟨_, _, _, _, rfl, _⟩ := h; rfl) | (obtain ⟨_, _, _, _, _, rfl, _⟩ := h; rfl) | (obtain ⟨_, _, _, _, _, _, rfl, _⟩ := h; rfl) | (obtain ⟨_, _, _, _, _, _, _, rfl, _⟩ := h; rfl)) ⟨_, fun cdv A outer s H E M X0 hr => w_as_word (P := P) (w := w) (base := base) (g_isinstance := (He.free_ok X G (c.t.d.fact 40 (f := .free "isinstance") rfl))) (g_list := (He.free_ok X G (c.t.d.fact 43 (f := .free "list") rfl))) (g_tuple := (He.free_ok X G (c.t.d.fact 44 (f := .free "tuple") rfl))) (g_len := (He.free_ok X G (c.t.d.fact 45 (f := .free "len") rfl))) (g_MOST_WORD := (He.int_ok X G (c.t.d.fact 55 (f := .int "MOST_WORD" (60)) rfl))) (g_enumerate := (He.free_ok X G (c.t.d.fact 47 (f := .free "enumerate") rfl))) (c_is_letter := c_is_letter) _ _ cdv A outer s H E M X0 hr, r_as_word⟩
  have c_as_word : CalD P w K mg base 3 "as_word" false sp_as_word := ⟨_, _, ["value", "many"], ok_as_word, (He.glo_ok X G (c.t.d.fact 7 (f := .glo "as_word") rfl)), D_as_word.kp, D_as_word.bindsN fun _ _ _ _ _ _ us hl => match us, hl with | [_, _], _ => rfl⟩
  have ok_row_of : FnOk P w K mg base CX0 5 _ fd_row_of ["bonds", "word"] (spD K false (sp_row_of (He.ga K "Bonds"))) := okD F_row_of sc_row_of [] (by intro ds k R h; first | (rcases h with ⟨_, _, _, rfl, _⟩ | ⟨rfl, _⟩ <;> rfl) | (obtain ⟨rfl, _⟩ := h; rfl) | (obtain ⟨_, rfl, _⟩ := h; rfl) | (obtain ⟨_, _, rfl, _⟩ := h; rfl) | (obtain ⟨_, _, _, rfl, _⟩ := h; rfl) | (obtain ⟨_, _, _, _, rfl, _⟩ := h; rfl) | (obtain ⟨_, _, _, _, _, rfl, _⟩ := h; rfl) | (obtain ⟨_, _, _, _, _, _, rfl, _⟩ := h; rfl) | (obtain ⟨_, _, _, _, _, _, _, rfl, _⟩ := h; rfl)) ⟨_, fun cdv A outer s H E M X0 hr => w_row_of (BC := He.ga K "Bonds") (P := P) (w := w) (base := base) (g_len := (He.free_ok X G (c.t.d.fact 45 (f := .free "len") rfl))) (c_row_behind := c_row_behind) (c_as_word := c_as_word) (c_len_Bonds := c_len_Bonds) _ _ cdv A outer s H E M X0 hr, r_row_of (He.ga K "Bonds")⟩
  have c_row_of : CalD P w K mg base 5 "row_of" false (sp_row_of (He.ga K "Bonds")) := ⟨_, _, ["bonds", "word"], ok_row_of, (He.glo_ok X G (c.t.d.fact 14 (f := .glo "row_of") rfl)), D_row_of.kp, D_row_of.bindsN fun _ _ _ _ _ _ us hl => match us, hl with | [_, _], _ => rfl⟩
  have ok_least_word : FnOk P w K mg base CX0 6 _ fd_least_word ["bonds", "word"] (spD K false (sp_least_word (He.ga K "Bonds"))) := okD F_least_word sc_least_word [] (by intro ds k R h; first | (rcases h with ⟨_, _, _, rfl, _⟩ | ⟨rfl, _⟩ <;> rfl) | (obtain ⟨rfl, _⟩ := h; rfl) | (obtain ⟨_, rfl, _⟩ := h; rfl) | (obtain ⟨_, _, rfl, _⟩ := h; rfl) | (obtain ⟨_, _, _, rfl, _⟩ := h; rfl) | (obtain ⟨_, _, _, _, rfl, _⟩ := h; rfl) | (obtain ⟨_, _, _, _, _, rfl, _⟩ := h; rfl) | (obtain ⟨_, _, _, _, _, _, rfl, _⟩ := h; rfl) | (obtain ⟨_, _, _, _, _, _, _, rfl, _⟩ := h; rfl)) ⟨_, fun cdv A outer s H E M X0 hr => w_least_word (BC := He.ga K "Bonds") (P := P) (w := w) (base := base) (c_word_of := c_word_of) (c_row_of := c_row_of) _ _ cdv A outer s H E M X0 hr, r_least_word (He.ga K "Bonds")⟩
  have c_least_word : CalD P w K mg base 6 "least_word" false (sp_least_word (He.ga K "Bonds")) := ⟨_, _, ["bonds", "word"], ok_least_word, (He.glo_ok X G (c.t.d.fact 18 (f := .glo "least_word") rfl)), D_least_word.kp, D_least_word.bindsN fun _ _ _ _ _ _ us hl => match us, hl with | [_, _], _ => rfl⟩
  have ok_least_to_strike : FnOk P w K mg base CX0 7 _ fd_least_to_strike ["bonds", "word"] (spD K false (sp_least_to_strike (He.ga K "Bonds"))) := okD F_least_to_strike sc_least_to_strike [] (by intro ds k R h; first | (rcases h with ⟨_, _, _, rfl, _⟩ | ⟨rfl, _⟩ <;> rfl) | (obtain ⟨rfl, _⟩ := h; rfl) | (obtain ⟨_, rfl, _⟩ := h; rfl) | (obtain ⟨_, _, rfl, _⟩ := h; rfl) | (obtain ⟨_, _, _, rfl, _⟩ := h; rfl) | (obtain ⟨_, _, _, _, rfl, _⟩ := h; rfl) | (obtain ⟨_, _, _, _, _, rfl, _⟩ := h; rfl) | (obtain ⟨_, _, _, _, _, _, rfl, _⟩ := h; rfl) | (obtain ⟨_, _, _, _, _, _, _, rfl, _⟩ := h; rfl)) ⟨_, fun cdv A outer s H E M X0 hr => w_least_to_strike (BC := He.ga K "Bonds") (P := P) (w := w) (base := base) (g_len := (He.free_ok X G (c.t.d.fact 45 (f := .free "len") rfl))) (g_MOST_BELOW := (He.int_ok X G (c.t.d.fact 59 (f := .int "MOST_BELOW" (12)) rfl))) (c_least_word := c_least_word) _ _ cdv A outer s H E M X0 hr, r_least_to_strike (He.ga K "Bonds")⟩
  have c_least_to_strike : CalD P w K mg base 7 "least_to_strike" false (sp_least_to_strike (He.ga K "Bonds")) := ⟨_, _, ["bonds", "word"], ok_least_to_strike, (He.glo_ok X G (c.t.d.fact 19 (f := .glo "least_to_strike") rfl)), D_least_to_strike.kp, D_least_to_strike.bindsN fun _ _ _ _ _ _ us hl => match us, hl with | [_, _], _ => rfl⟩
  have ok_rows_below : FnOk P w K mg base CX0 8 _ fd_rows_below ["bonds", "word"] (spD K false (sp_rows_below (He.ga K "Bonds"))) := okD F_rows_below sc_rows_below [] (by intro ds k R h; first | (rcases h with ⟨_, _, _, rfl, _⟩ | ⟨rfl, _⟩ <;> rfl) | (obtain ⟨rfl, _⟩ := h; rfl) | (obtain ⟨_, rfl, _⟩ := h; rfl) | (obtain ⟨_, _, rfl, _⟩ := h; rfl) | (obtain ⟨_, _, _, rfl, _⟩ := h; rfl) | (obtain ⟨_, _, _, _, rfl, _⟩ := h; rfl) | (obtain ⟨_, _, _, _, _, rfl, _⟩ := h; rfl) | (obtain ⟨_, _, _, _, _, _, rfl, _⟩ := h; rfl) | (obtain ⟨_, _, _, _, _, _, _, rfl, _⟩ := h; rfl)) ⟨_, fun cdv A outer s H E M X0 hr => w_rows_below (BC := He.ga K "Bonds") (P := P) (w := w) (base := base) (g_sorted := (He.free_ok X G (c.t.d.fact 50 (f := .free "sorted") rfl))) (g_set := (He.free_ok X G (c.t.d.fact 51 (f := .free "set") rfl))) (c_first_row := c_first_row) (c_least_to_strike := c_least_to_strike) (c_pressed := c_pressed) _ _ cdv A outer s H E M X0 hr, r_rows_below (He.ga K "Bonds")⟩
  have c_rows_below : CalD P w K mg base 8 "rows_below" false (sp_rows_below (He.ga K "Bonds")) := ⟨_, _, ["bonds", "word"], ok_rows_below, (He.glo_ok X G (c.t.d.fact 20 (f := .glo "rows_below") rfl)), D_rows_below.kp, D_rows_below.bindsN fun _ _ _ _ _ _ us hl => match us, hl with | [_, _], _ => rfl⟩
  have ok_count_below : FnOk P w K mg base CX0 9 _ fd_count_below ["bonds", "word"] (spD K false (sp_count_below (He.ga K "Bonds"))) := okD F_count_below sc_count_below [] (by intro ds k R h; first | (rcases h with ⟨_, _, _, rfl, _⟩ | ⟨rfl, _⟩ <;> rfl) | (obtain ⟨rfl, _⟩ := h; rfl) | (obtain ⟨_, rfl, _⟩ := h; rfl) | (obtain ⟨_, _, rfl, _⟩ := h; rfl) | (obtain ⟨_, _, _, rfl, _⟩ := h; rfl) | (obtain ⟨_, _, _, _, rfl, _⟩ := h; rfl) | (obtain ⟨_, _, _, _, _, rfl, _⟩ := h; rfl) | (obtain ⟨_, _, _, _, _, _, rfl, _⟩ := h; rfl) | (obtain ⟨_, _, _, _, _, _, _, rfl, _⟩ := h; rfl)) ⟨_, fun cdv A outer s H E M X0 hr => w_count_below (BC := He.ga K "Bonds") (P := P) (w := w) (base := base) (g_len := (He.free_ok X G (c.t.d.fact 45 (f := .free "len") rfl))) (c_rows_below := c_rows_below) _ _ cdv A outer s H E M X0 hr, r_count_below (He.ga K "Bonds")⟩
  have c_count_below : CalD P w K mg base 9 "count_below" false (sp_count_below (He.ga K "Bonds")) := ⟨_, _, ["bonds", "word"], ok_count_below, (He.glo_ok X G (c.t.d.fact 23 (f := .glo "count_below") rfl)), D_count_below.kp, D_count_below.bindsN fun _ _ _ _ _ _ us hl => match us, hl with | [_, _], _ => rfl⟩
  have ok_kept : FnOk P w K mg base CX0 7 _ fd_kept ["bonds", "one", "other"] (spD K false (sp_kept (He.ga K "Bonds"))) := okD F_kept sc_kept [] (by intro ds k R h; first | (rcases h with ⟨_, _, _, rfl, _⟩ | ⟨rfl, _⟩ <;> rfl) | (obtain ⟨rfl, _⟩ := h; rfl) | (obtain ⟨_, rfl, _⟩ := h; rfl) | (obtain ⟨_, _, rfl, _⟩ := h; rfl) | (obtain ⟨_, _, _, rfl, _⟩ := h; rfl) | (obtain ⟨_, _, _, _, rfl, _⟩ := h; rfl) | (obtain ⟨_, _, _, _, _, rfl, _⟩ := h; rfl) | (obtain ⟨_, _, _, _, _, _, rfl, _⟩ := h; rfl) | (obtain ⟨_, _, _, _, _, _, _, rfl, _⟩ := h; rfl)) ⟨_, fun cdv A outer s H E M X0 hr => w_kept (BC := He.ga K "Bonds") (P := P) (w := w) (base := base) (g_range := (He.free_ok X G (c.t.d.fact 46 (f := .free "range") rfl))) (g_reversed := (He.free_ok X G (c.t.d.fact 52 (f := .free "reversed") rfl))) (g_len := (He.free_ok X G (c.t.d.fact 45 (f := .free "len") rfl))) (c_row_of := c_row_of) (c_least_word := c_least_word) (c_pressed := c_pressed) (c_first_row := c_first_row) _ _ cdv A outer s H E M X0 hr, r_kept (He.ga K "Bonds")⟩
  have c_kept : CalD P w K mg base 7 "kept" false (sp_kept (He.ga K "Bonds")) := ⟨_, _, ["bonds", "one", "other"], ok_kept, (He.glo_ok X G (c.t.d.fact 21 (f := .glo "kept") rfl)), D_kept.kp, D_kept.bindsN fun _ _ _ _ _ _ us hl => match us, hl with | [_, _, _], _ => rfl⟩
  have ok_is_below : FnOk P w K mg base CX0 8 _ fd_is_below ["bonds", "one", "other"] (spD K false (sp_is_below (He.ga K "Bonds"))) := okD F_is_below sc_is_below [] (by intro ds k R h; first | (rcases h with ⟨_, _, _, rfl, _⟩ | ⟨rfl, _⟩ <;> rfl) | (obtain ⟨rfl, _⟩ := h; rfl) | (obtain ⟨_, rfl, _⟩ := h; rfl) | (obtain ⟨_, _, rfl, _⟩ := h; rfl) | (obtain ⟨_, _, _, rfl, _⟩ := h; rfl) | (obtain ⟨_, _, _, _, rfl, _⟩ := h; rfl) | (obtain ⟨_, _, _, _, _, rfl, _⟩ := h; rfl) | (obtain ⟨_, _, _, _, _, _, rfl, _⟩ := h; rfl) | (obtain ⟨_, _, _, _, _, _, _, rfl, _⟩ := h; rfl)) ⟨_, fun cdv A outer s H E M X0 hr => w_is_below (BC := He.ga K "Bonds") (P := P) (w := w) (base := base) (c_kept := c_kept) _ _ cdv A outer s H E M X0 hr, r_is_below (He.ga K "Bonds")⟩
  have c_is_below : CalD P w K mg base 8 "is_below" false (sp_is_below (He.ga K "Bonds")) := ⟨_, _, ["bonds", "one", "other"], ok_is_below, (He.glo_ok X G (c.t.d.fact 22 (f := .glo "is_below") rfl)), D_is_below.kp, D_is_below.bindsN fun _ _ _ _ _ _ us hl => match us, hl with | [_, _, _], _ => rfl⟩
  have ok_lasts : FnOk P w K mg base CX0 6 _ fd_lasts ["bonds", "word"] (spD K false (sp_lasts (He.ga K "Bonds"))) := okD F_lasts sc_lasts [] (by intro ds k R h; first | (rcases h with ⟨_, _, _, rfl, _⟩ | ⟨rfl, _⟩ <;> rfl) | (obtain ⟨rfl, _⟩ := h; rfl) | (obtain ⟨_, rfl, _⟩ := h; rfl) | (obtain ⟨_, _, rfl, _⟩ := h; rfl) | (obtain ⟨_, _, _, rfl, _⟩ := h; rfl) | (obtain ⟨_, _, _, _, rfl, _⟩ := h; rfl) | (obtain ⟨_, _, _, _, _, rfl, _⟩ := h; rfl) | (obtain ⟨_, _, _, _, _, _, rfl, _⟩ := h; rfl) | (obtain ⟨_, _, _, _, _, _, _, rfl, _⟩ := h; rfl)) ⟨_, fun cdv A outer s H E M X0 hr => w_lasts (BC := He.ga K "Bonds") (P := P) (w := w) (base := base) (c_fallen := c_fallen) (c_row_of := c_row_of) _ _ cdv A outer s H E M X0 hr, r_lasts (He.ga K "Bonds")⟩
  have c_lasts : CalD P w K mg base 6 "lasts" false (sp_lasts (He.ga K "Bonds")) := ⟨_, _, ["bonds", "word"], ok_lasts, (He.glo_ok X G (c.t.d.fact 16 (f := .glo "lasts") rfl)), D_lasts.kp, D_lasts.bindsN fun _ _ _ _ _ _ us hl => match us, hl with | [_, _], _ => rfl⟩
  have ok_check_led : FnOk P w K mg base CX0 1 _ fd_check_led ["letters"] (spD K false sp_check_led) := okD F_check_led sc_check_led [] (by intro ds k R h; first | (rcases h with ⟨_, _, _, rfl, _⟩ | ⟨rfl, _⟩ <;> rfl) | (obtain ⟨rfl, _⟩ := h; rfl) | (obtain ⟨_, rfl, _⟩ := h; rfl) | (obtain ⟨_, _, rfl, _⟩ := h; rfl) | (obtain ⟨_, _, _, rfl, _⟩ := h; rfl) | (obtain ⟨_, _, _, _, rfl, _⟩ := h; rfl) | (obtain ⟨_, _, _, _, _, rfl, _⟩ := h; rfl) | (obtain ⟨_, _, _, _, _, _, rfl, _⟩ := h; rfl) | (obtain ⟨_, _, _, _, _, _, _, rfl, _⟩ := h; rfl)) ⟨_, fun cdv A outer s H E M X0 hr => w_check_led (P := P) (w := w) (base := base) (g_len := (He.free_ok X G (c.t.d.fact 45 (f := .free "len") rfl))) (g_MOST_LED := (He.int_ok X G (c.t.d.fact 58 (f := .int "MOST_LED" (16)) rfl))) _ _ cdv A outer s H E M X0 hr, r_check_led⟩
  have c_check_led : CalD P w K mg base 1 "check_led" false sp_check_led := ⟨_, _, ["letters"], ok_check_led, (He.glo_ok X G (c.t.d.fact 17 (f := .glo "check_led") rfl)), D_check_led.kp, D_check_led.bindsN fun _ _ _ _ _ _ us hl => match us, hl with | [_], _ => rfl⟩
  have ok_row_to_spell : FnOk P w K mg base CX0 5 _ fd_row_to_spell ["bonds", "word"] (spD K false (sp_row_to_spell (He.ga K "Bonds"))) := okD F_row_to_spell sc_row_to_spell [] (by intro ds k R h; first | (rcases h with ⟨_, _, _, rfl, _⟩ | ⟨rfl, _⟩ <;> rfl) | (obtain ⟨rfl, _⟩ := h; rfl) | (obtain ⟨_, rfl, _⟩ := h; rfl) | (obtain ⟨_, _, rfl, _⟩ := h; rfl) | (obtain ⟨_, _, _, rfl, _⟩ := h; rfl) | (obtain ⟨_, _, _, _, rfl, _⟩ := h; rfl) | (obtain ⟨_, _, _, _, _, rfl, _⟩ := h; rfl) | (obtain ⟨_, _, _, _, _, _, rfl, _⟩ := h; rfl) | (obtain ⟨_, _, _, _, _, _, _, rfl, _⟩ := h; rfl)) ⟨_, fun cdv A outer s H E M X0 hr => w_row_to_spell (BC := He.ga K "Bonds") (P := P) (w := w) (base := base) (g_len := (He.free_ok X G (c.t.d.fact 45 (f := .free "len") rfl))) (c_as_word := c_as_word) (c_check_led := c_check_led) (c_row_behind := c_row_behind) (c_len_Bonds := c_len_Bonds) _ _ cdv A outer s H E M X0 hr, r_row_to_spell (He.ga K "Bonds")⟩
  have c_row_to_spell : CalD P w K mg base 5 "row_to_spell" false (sp_row_to_spell (He.ga K "Bonds")) := ⟨_, _, ["bonds", "word"], ok_row_to_spell, (He.glo_ok X G (c.t.d.fact 24 (f := .glo "row_to_spell") rfl)), D_row_to_spell.kp, D_row_to_spell.bindsN fun _ _ _ _ _ _ us hl => match us, hl with | [_, _], _ => rfl⟩
  have okG_shortest_words : GFn P w K mg base 6 _ fd_shortest_words ["bonds", "word"] (spDG K (spG_shortest_words (He.ga K "Bonds"))) := okDGb F_shortest_words sg_shortest_words [2] (by intro ds R E h; first | (obtain ⟨_, _, rfl, _⟩ := h; rfl) | (obtain ⟨_, _, _, rfl, _⟩ := h; rfl)) ⟨tG_shortest_words (He.ga K "Bonds"), fun cdv A outer s H E pn X0 Ex hr tk => wG_shortest_words (BC := He.ga K "Bonds") (P := P) (w := w) (base := base) (g_reversed := (He.free_ok X G (c.t.d.fact 52 (f := .free "reversed") rfl))) (c_row_to_spell := c_row_to_spell) (c_fallen := c_fallen) (c_pressed := c_pressed) _ cdv A outer s H E pn X0 Ex hr tk, fun X ds R E h => rG_shortest_words (He.ga K "Bonds") X ds R E h⟩
  have cG_shortest_words : CalGen P w K mg base 6 "shortest_words" (spG_shortest_words (He.ga K "Bonds")) := ⟨_, _, ["bonds", "word"], okG_shortest_words, (He.glo_ok X G (c.t.d.fact 25 (f := .glo "shortest_words") rfl)), D_shortest_words.kp, D_shortest_words.bindsN fun _ _ _ _ _ _ us hl => match us, hl with | [_, _], _ => rfl⟩
  exact ok_law (T := TTof K lamL) (g_range := (He.free_ok X G (c.t.d.fact 46 (f := .free "range") rfl))) (g_len := (He.free_ok X G (c.t.d.fact 45 (f := .free "len") rfl))) (g_list := (He.free_ok X G (c.t.d.fact 43 (f := .free "list") rfl))) (g_min := (He.free_ok X G (c.t.d.fact 53 (f := .free "min") rfl))) (c__law_table := c__law_table) (c__law_draw := c__law_draw) (c_Bonds := c_Bonds) (c__law_word := c__law_word) (c__law_under := c__law_under) (c__law_rows_by := c__law_rows_by) (c_count_below := c_count_below) (c_is_below := c_is_below) (c_lasts := c_lasts) (cG_shortest_words := cG_shortest_words) F_law ok__law_begun (He.glo_ok X G (c.t.d.fact 29 (f := .glo "_law_begun") rfl)) D__law_begun.kp (D__law_begun.bindsN fun _ _ _ _ _ _ us hl => match us, hl with | [_], _ => rfl)
theorem ob_eq (s : PySem.W.SharedT) : ob s = hk.obs s.abs := He.obsX_eq (HandSHeadRun.getT_eq s)
end BW
set_option maxHeartbeats 0
namespace BW
open PySem PySem.Spec PyProof.Rows L2
theorem run (w : World) : HandSHeadRun.RunEq R (PySem.W.view R.prog [63]) hk ob 6000 names w := PySem.W.byRow2 "special-get-raises" (P := PR) run0 run1 w
end BW
open PySem PySem.W PyProof.Rows
set_option maxRecDepth 100000 in
set_option maxHeartbeats 0 in
theorem PySem.Challenge.cw_bondwords_k43_whole_any_shortest_word_holds : PySem.Challenge.rw_bondwords_k43_whole_any_shortest_word.Holds := by
  w_on; o_law
  refine HandSHeadRun.head_any (r := OpenLaw.row PySem.Challenge.rw_bondwords_k43_whole_any_shortest_word) (q := view (OpenLaw.row PySem.Challenge.rw_bondwords_k43_whole_any_shortest_word).prog [63]) (H := BW.hk) (ob := BW.ob) (M := 6000) (loose := BW.names) (d := HandSHeadRun.topDef (OpenLaw.row PySem.Challenge.rw_bondwords_k43_whole_any_shortest_word).prog 63) (kwd := []) BW.ob_eq
    (by kernel_rfl) (fun s => by kernel_rfl) BW.run (by kernel_rfl) (by kernel_rfl) (by kernel_rfl) (by rfl) (by first | assumption | decide +kernel) (by decide +kernel) ⟨rfl, rfl, rfl, rfl, rfl, by decide +kernel⟩ ?hw ?hc
  case hw => w_witness2
  case hc =>
    refine L2G.walkGT (l := PySem.Challenge.rw_bondwords_k43_whole_any_shortest_word) (n := 63) (k := 10) (x := "script") rfl (by decide) (by kernel_rfl) ⟨rfl, by decide, by decide⟩ ?F
    intro w mz fz hz ⟨K, kin, says⟩ ns0 at0
    have atL : mz ("law" : PySem.Str) = some (.ref fz) := by
      rw [show ("law" : PySem.Str) = (HandSHeadRun.topDef (OpenLaw.row PySem.Challenge.rw_bondwords_k43_whole_any_shortest_word).prog 63).name from by kernel_rfl]
      exact at0
    obtain ⟨fd, hb, hF⟩ := BW.facts (P := (PySem.Challenge.rw_bondwords_k43_whole_any_shortest_word).prog) (w := w) kin ns0 atL says
    refine ⟨K, fd, BW.spLaw K (DL.TTof K BW.lamL), BW.tfL.map (He.cT K), kin, fun p hp => ?_, fun p hp => ?_, fun p hp => ?_, hb, fun H a ns hl tb hS => ⟨a, ns, rfl, hS, hl, fun p hp => ?_, fun _ => rfl⟩, fun base b1 b2 b3 => hF base b1 b2 fun n hn => b3 _ (List.mem_map.mpr ⟨n, hn, rfl⟩)⟩
    · obtain ⟨n, hn, rfl⟩ := List.mem_map.mp hp
      exact says.empty _ hn
    · obtain ⟨n, hn, rfl⟩ := List.mem_map.mp hp
      exact says.out _ hn
    · obtain ⟨n, hn, rfl⟩ := List.mem_map.mp hp
      exact PySem.W.codeHd_of_K kin (says.hd _ hn)
    · obtain ⟨x, hx, rfl⟩ := List.mem_map.mp hp
      exact tb _ (List.mem_map.mpr ⟨x.1, (show x.1 ∈ BW.lamL.map (·.1) from List.mem_map.mpr ⟨x, hx, rfl⟩), rfl⟩)

